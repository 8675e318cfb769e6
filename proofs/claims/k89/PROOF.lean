import PyProof.Rows.All
import Wide.All
import KE.KDictOf
import KE.LcSums
import KE.KRevIter
import KE.KDictList
import KE.KUnpack
import KE.KSortTup
import KE.KIntText
import KE.KTryMore
import KE.KFromBytes
import Wide.FinOn
import KE.RegKIsAll
import Lean
import PySem.Challenge.RW_ringbeat_k89_greatest_counts
set_option Elab.async false
set_option linter.all false
set_option compiler.extract_closed false
set_option genSizeOf false
set_option maxRecDepth 100000
set_option maxHeartbeats 4000000
set_option bootstrap.genMatcherCode false
noncomputable section
namespace PySem.W.Fast
def tw11412386906116446507:=True
def tw18418892866214841603:=True
def tw16562205827157788010:=True
def tw12255901566760406382:=True
def tw41765653649800070:=True
def tw16036673980134197800:=True
def tw5183835740710425471:=True
def tw15071724856088404432:=True
def tw13382811022291172425:=True
def tw4760784216400123171:=True
def tw1462876106846248189:=True
def tw2244945325512741758:=True
def tw4774558616792679672:=True
def tw16616180456404198723:=True
def tw18060354217218886324:=True
def tw3829538928701075469:=True
def tw11636405052187859974:=True
def tw14861688156016419067:=True
def tw6789616505058805132:=True
def tw5910731478065362957:=True
def tw11388016833802751530:=True
def tw293431403705018295:=True
def tw17076747114588981916:=True
def tw10738775926107536565:=True
def tw9072905308926727421:=True
def tw91947965078982000:=True
def tw4074945450301247791:=True
def tw7223284057912543708:=True
def tw14657490945362595769:=True
def tw8585629855265468073:=True
def tw4003386625023744766:=True
def tw15752224129997259539:=True
def tw17710913405590922262:=True
def tw2192194183350307021:=True
def tw14406436989687428313:=True
def tw1663260961033258568:=True
def tw7277085803532977429:=True
def tw7286064169854153936:=True
def tw2373543394765977276:=True
def tw6917679969603407906:=True
def tw4563828821813134428:=True
def tw14743261847208913739:=True
def tw10310332616933029506:=True
def tw11469334421339384107:=True
def tw9299718813006197732:=True
def tw5280544647975642958:=True
def tw1107560498601478883:=True
def tw4741236549577381293:=True
def tw1056457320319474723:=True
def tw10869685419237273542:=True
def tw12944220621207166836:=True
def tw18418203492820227725:=True
def tw17497941776243628536:=True
def tw6973801746104949609:=True
def tw12836390235026764026:=True
def tw18147891781342987349:=True
def tw9280695235260886411:=True
def tw3762208554546127370:=True
def tw14554663214862410434:=True
def tw13342687158489663515:=True
def tw11565101880229420232:=True
def tw6825499980053702789:=True
def tw13668276560052574877:=True
def tw17512176968507714544:=True
def tw11392790482888773011:=True
def tw14354744343094910557:=True
def tw5944185585537959212:=True
def tw12956513119201107808:=True
def tw5542111357039807852:=True
def tw4304774420089907938:=True
def tw13284527500695403464:=True
def tw12173054268481260082:=True
def tw2299233272354304024:=True
def tw7975098435261551387:=True
def tw6669849839155282124:=True
def tw10698618801298633793:=True
def tw7467753989346700087:=True
def tw14219895467695339487:=True
def tw11860380473119244139:=True
def tw3783040918044280:=True
def tw10934534130727672278:=True
def tw39765813743702908:=True
def tw15705121017984880494:=True
def tw9289646308057276970:=True
def tw12029371844433552953:=True
def tw1467994975604170842:=True
def tw15156541167523411284:=True
def tw13563583082654832532:=True
def tw14468053534507464323:=True
def tw507852180776508639:=True
def tw9403578141333635667:=True
def tw2011420231899099907:=True
def tw3735397746155457578:=True
def tw3455282592001398030:=True
def tw4254759905417533751:=True
def tw5048515185927600058:=True
def tw3670247280269394975:=True
def tw7855795817619962177:=True
def tw6535926744727866155:=True
def tw962167086236772710:=True
def tw3951588564277477900:=True
def tw834236281615135995:=True
def tw5655332429124515980:=True
def tw182905923901357201:=True
def tw2663134497348703037:=True
def tw7244785942698242820:=True
def tw3969250894227179933:=True
def tw6598470774571000660:=True
def tw10230000700617361720:=True
def tw9847149549385282875:=True
def tw8063849301607948182:=True
def tw6528262720806470509:=True
def tw12266641221895405913:=True
def tw2625744509549955231:=True
def tw8557817861944229406:=True
def tw5555882063923173011:=True
def tw11055646618570814509:=True
def tw4235142444101570902:=True
def tw15397921963824984484:=True
def tw3834278152298978124:=True
def tw8541307956981763652:=True
def tw2599633771588250269:=True
def tw18171102841955170268:=True
def tw2721133407773851896:=True
def tw4376666790780293573:=True
def tw15693524333615233107:=True
def tw12047368430555367155:=True
def tw86688857714089130:=True
def tw6890056427489797719:=True
def tw8886063228545124322:=True
def tw1527682920316557403:=True
def tw8535971101304656054:=True
def tw10178279195965538740:=True
def tw3414255953753146940:=True
def tw12994478621313973525:=True
def tw11615437769533623045:=True
def tw16322500210710719807:=True
def tw6106058372988661865:=True
def tw1349905137090614705:=True
def tw15000348091851633259:=True
def tw12635601625792491235:=True
def tw7251443471336825237:=True
def tw7509664740323264749:=True
def tw359321831430071410:=True
def tw8051413445001525745:=True
def tw4142816124901501335:=True
def tw4364673132216959011:=True
def tw981816797675697407:=True
def tw14090385409373060308:=True
def tw9170526843170322994:=True
def tw7752817139643040733:=True
def tw2756474420709086835:=True
def tw4049278868326696241:=True
def tw8243833367086425043:=True
def tw15443653157089060641:=True
def tw10548398957003577294:=True
def tw8598807260647849255:=True
def tw9658492292197672664:=True
def tw2443554949373459491:=True
def tw3018162688658662317:=True
def tw5678710873526531156:=True
def tw1633536109346568023:=True
def tw4474980687375805942:=True
def tw4744998357756567513:=True
def tw278091425418800429:=True
def tw17162598796963906856:=True
def tw11373380316566804331:=True
def tw10995651232587989834:=True
def tw17900667973644028587:=True
def tw16977315618606346005:=True
def tw15641323515649296801:=True
def tw9930563490563300203:=True
def tw11912097832835978016:=True
def tw5731167819798756896:=True
def tw14061697006318744936:=True
def tw10576078643999795911:=True
def tw9876074290042493308:=True
def tw4932692051160928731:=True
def tw14664013538915446081:=True
def tw4174049640664121235:=True
def tw10071336280972448324:=True
def tw5840856844609478258:=True
def tw6793798084945537298:=True
def tw1465708796042303730:=True
def tw8758104930039445516:=True
def tw5672314666978330176:=True
def tw5457194228992512469:=True
def tw614143378159028287:=True
def tw9684001121172112941:=True
def tw7380235708987649732:=True
def tw13283709174802737673:=True
def tw8605253745420540478:=True
def tw3044744007141094489:=True
def tw10148686130846746652:=True
def tw8111453790866861684:=True
def tw9998907336409617499:=True
def tw15345179373934675063:=True
def tw1061491778649283258:=True
def tw13864479163907964222:=True
def tw17165850479096416750:=True
def tw17285904917583305627:=True
def tw13272668960339457100:=True
def tw4174280700831360196:=True
def tw6590480083940195152:=True
def tw16260925912512855970:=True
def tw18217624933342418077:=True
def tw6181454193412669305:=True
def tw14686636495580296451:=True
def tw3826831195200214875:=True
def tw5635194851160491144:=True
def tw15266266958325024012:=True
def tw15556859418065378706:=True
def tw7326574103108340045:=True
def tw172442617530688986:=True
def tw8661022975843002404:=True
def tw15662251291172155750:=True
def tw5246623162062998095:=True
def tw9363833089418762066:=True
def tw16241261766166887226:=True
def tw773837588089752436:=True
def tw6120636570190819811:=True
def tw2743018431186529800:=True
def tw10384670766574601406:=True
def tw6648691617408665974:=True
def tw14231576204047518865:=True
def tw16581522370095619828:=True
def tw7628517622463246403:=True
def tw5411003956406534453:=True
def tw4199373580869005355:=True
def tw3638776332105225423:=True
def tw5006508430629549448:=True
def tw682509728702249737:=True
def tw14148199650025652137:=True
def tw17970855819746949387:=True
def tw11686963771818812140:=True
def tw9460832150159439005:=True
def tw2521132273732994733:=True
def tw1454712641253965810:=True
def tw7838669319408505745:=True
def tw4738987676439515428:=True
def tw5195949611898382615:=True
def tw6122326299920364318:=True
def tw18143374269899021593:=True
def tw9545677033634119560:=True
def tw12102388370634488220:=True
def tw16847356055486053210:=True
def tw12783750587914696299:=True
def tw8790360430392698371:=True
def tw13292332857021655163:=True
def tw4087206373667485235:=True
def tw11261870164662801058:=True
def tw14424504578027385112:=True
def tw6642394905693246770:=True
def tw10260296675146067156:=True
def tw8939254977868589530:=True
def tw11401068808991081857:=True
def tw1356118886138156791:=True
def tw5685012889404086773:=True
def tw15963801691374436739:=True
def tw11194427617803773468:=True
def tw2840067420705515552:=True
def tw10491091718325126814:=True
def tw6682743757939456685:=True
def tw14859372700282053379:=True
def tw974281344954412800:=True
def tw16816451006675497786:=True
def tw17426253050614115887:=True
def tw2753177251917509520:=True
def tw2961557192639062826:=True
def tw6167152642095586185:=True
def tw261569087075202090:=True
def tw13322861602993757321:=True
def tw7592283822709305711:=True
def tw9484157083819412839:=True
def tw11557400564275816454:=True
def tw5378617225409959615:=True
def tw7011922199736413106:=True
def tw16327672158970810664:=True
def tw6281340670697316992:=True
def tw3282685234382742693:=True
def tw12489859137160638183:=True
def tw10808931265645727203:=True
def tw3557206000350962529:=True
def tw6170367583411503908:=True
def tw8931989956735944324:=True
def tw1956258353439967718:=True
def tw13531973729058331039:=True
def tw11489979085619262881:=True
def tw889349453201974125:=True
def tw2449584457684994207:=True
def tw11941347885321003495:=True
def tw635749783926292892:=True
def tw13294645775010018508:=True
def tw11885337044681347712:=True
def tw15580656591449547051:=True
def tw3741209900485371430:=True
def tw11978600847418515111:=True
def tw14801192987055932615:=True
def tw9900519664884561676:=True
def tw17527557582173027222:=True
def tw690706970909439662:=True
def tw11100846869508143556:=True
def tw2712559557389219645:=True
def tw5810566510885588398:=True
def tw9405881102905124555:=True
def tw12412905107561893832:=True
def tw16047095151376743677:=True
def tw14413927796909644782:=True
def tw6646522373311295020:=True
def tw16671656765224999657:=True
def tw7527799060842075054:=True
def tw8604257043265508281:=True
def tw6034497367434170786:=True
def tw13617065567282735415:=True
def tw5763785175740020572:=True
def tw6417114107682748568:=True
def tw16324268897721668477:=True
def tw17584850149711255520:=True
def tw12426052869174793394:=True
def tw1272969984186322552:=True
def tw6232540265587663372:=True
def tw4946081294891487769:=True
def tw14880161899950185615:=True
def tw16128354933151589658:=True
def tw16113817976569302998:=True
def tw3916154650032958175:=True
def tw17142438272206516577:=True
def tw11964638069331594483:=True
def tw5072351160120850599:=True
def tw17921013222067826295:=True
def tw9886328818518206503:=True
def tw9069822407734730701:=True
def tw8047293218686611342:=True
def tw1246186251144729147:=True
def tw10499459367881675064:=True
def tw16052899454938688212:=True
def tw12464250390800134317:=True
def tw8016877248948876644:=True
def tw13517266583193282974:=True
def tw11016731713179036456:=True
def tw6176342036495935953:=True
def tw13482304243288587505:=True
def tw7412153678192698180:=True
def tw15931703023824590139:=True
def tw17299010855461826998:=True
def tw10102562476119604515:=True
def tw13707227528605727538:=True
def tw12321291507954470753:=True
def tw12570025005972801781:=True
def tw9419729269623698746:=True
def tw11492056139014383687:=True
def tw662836758025161823:=True
def tw7535632274247941550:=True
def tw12867728416774249363:=True
def tw7229778699586512183:=True
def tw17340771677684676946:=True
def tw5434740266287076646:=True
def tw1929649262345978189:=True
def tw5829709630457405366:=True
def tw18166995630043335119:=True
def tw18262248704349862890:=True
def tw11448335492297295390:=True
def tw17046255065303635350:=True
def tw6630336408239595940:=True
def tw11631105909110695692:=True
def tw3310211710763114205:=True
def tw7415843702103683986:=True
def tw17143407186312659183:=True
def tw10739730180952657627:=True
def tw17298728687398095427:=True
def tw17956174282920656353:=True
def tw7086344400852139256:=True
def tw17217970531173427943:=True
def tw12732305860837895686:=True
def tw15991177162763749461:=True
def tw963363872215188785:=True
def tw9413167700616245061:=True
def tw10959281252901982836:=True
def tw9813375126475462952:=True
def tw10805403942848629616:=True
def tw2832255652678659300:=True
def tw16079007731994276664:=True
def tw7994811133207094303:=True
def tw16391737996100521912:=True
def tw363980548297943482:=True
def tw7063289189189765306:=True
def tw4298161980399558617:=True
def tw5697853052144626633:=True
def tw12982247176181451512:=True
def tw3302800907444480161:=True
def tw12626630976004486890:=True
def tw4500691669505503544:=True
def tw16506891633611626718:=True
def tw16473128226292525081:=True
def tw15329939269000645752:=True
def tw2353389275239337000:=True
def tw17383400255125088082:=True
def tw7350230886168056836:=True
def tw10421219047506012070:=True
def tw17797163926503162155:=True
def tw4590584190604014853:=True
def tw1779273105678936920:=True
def tw12917268675175502785:=True
def tw16053474179407470792:=True
def tw6152654555808454090:=True
def tw7014686596129358684:=True
def tw14559603829930769130:=True
def tw16805604767622783124:=True
def tw13947416376621420635:=True
def tw1843330274065777065:=True
def tw5907471534269278298:=True
def tw829143046149414128:=True
def tw14422072923620769420:=True
def tw16651556681418054663:=True
def tw10330250023528118588:=True
def tw9831409566331976608:=True
def tw13693870472371493406:=True
def tw8215150849042050174:=True
def tw7638029746692563511:=True
def tw4231637213880009443:=True
def tw12379889116212122844:=True
def tw8399011850257843119:=True
def tw10125371186571471670:=True
def tw12472441022300434507:=True
def tw14339529208003565878:=True
def tw1830895254914965163:=True
def tw17955232290739182439:=True
def tw10324395217752263966:=True
def tw4311273439804785495:=True
def tw4525628798758225912:=True
def tw18443637179730648005:=True
def tw12094947580656136459:=True
def tw5413866021262110790:=True
def tw952712918471702324:=True
def tw3528095371495406150:=True
def tw6409949673440004677:=True
def tw1106856558378582783:=True
def tw1798489981756054255:=True
def tw3036226440199092286:=True
def tw7586320794767148349:=True
def tw623393167126745931:=True
def tw15118314276396539117:=True
def tw10277788567070271871:=True
def tw520324120003024646:=True
def tw18167886609372958265:=True
def tw16270939220064284248:=True
def tw16498777015772260349:=True
def tw10292563190655081119:=True
def tw17987825326919843529:=True
def tw9849417791331918024:=True
def tw6085769415541586026:=True
def tw12934742211362215766:=True
def tw7405901149790420175:=True
def tw2275575483964367031:=True
def tw3402219579754563298:=True
def tw10952994608498245626:=True
def tw2715866790098733509:=True
def tw4076863867714203360:=True
def tw13731239776025343980:=True
def tw5054211826042010861:=True
def tw268172330257315576:=True
def tw1315572522613727854:=True
def tw13404478889411092250:=True
def tw6929076949109133105:=True
def tw6034775642586406522:=True
def tw3558892032306533774:=True
def tw3080848276900061889:=True
def tw7943718689102667380:=True
def tw16695293420153542750:=True
def tw1685967307860166875:=True
def tw9425893862980610349:=True
def tw12565116417426402174:=True
def tw3710899236078637123:=True
def tw14124977497012925699:=True
def tw1516984220946874056:=True
def tw12250188158928933967:=True
def tw788171203658247390:=True
def tw4070085282449365194:=True
def tw9887084238740129302:=True
def tw16042537136121514554:=True
def tw18117742892007229862:=True
def tw367066482932049919:=True
def tw10083664870954640556:=True
def tw3115782701454796461:=True
def tw14190339852021825290:=True
def tw14001247230269390771:=True
def tw7042819068985650698:=True
def tw15103196933885404208:=True
def tw12311829100406865112:=True
def tw3555194043904400604:=True
def tw13709405085105275021:=True
def tw1932568956964120650:=True
def tw16382564453632408998:=True
def tw18310431591276802906:=True
def tw108008266382151090:=True
def tw18397641487235831338:=True
def tw2688913032534302099:=True
def tw16580270385799344236:=True
def tw15943358354443407231:=True
def tw305080721844537094:=True
def tw18437486690731628253:=True
def tw17178897200674954731:=True
def tw2107134041426853528:=True
def tw15964609209146670129:=True
def tw13498969387517174907:=True
def tw13910982485251209546:=True
def tw15889324608312700293:=True
def tw17444010266883156889:=True
def tw9552503058129630110:=True
def tw1937469806037057344:=True
def tw12418259020175671862:=True
def tw18332061119468829467:=True
def tw9749640348384189484:=True
def tw8457637714350975149:=True
def tw11101490830900998463:=True
def tw1973139594062176201:=True
def tw9607932775745873211:=True
def tw892925065853493074:=True
def tw8822675430000383945:=True
def tw13228637998752459741:=True
def tw4834726490632192950:=True
def tw7265738662454612163:=True
def tw16554919039600049835:=True
def tw10900322794384949508:=True
def tw11429753012899440513:=True
def tw2105337121195910961:=True
def tw1496200957944681917:=True
def tw369947378833755530:=True
def tw18021899943202104059:=True
def tw6799739093365534119:=True
def tw11752426673218823892:=True
def tw7382687861121063764:=True
def tw13410721110248125112:=True
def tw15357139516351185584:=True
def tw6639259715123916314:=True
def tw7098096059809581179:=True
def tw11922447573509473452:=True
def tw15758072252899994852:=True
def tw9697083327175095579:=True
def tw10914688305822425398:=True
def tw13329141244912704348:=True
def tw13753215715316257843:=True
def tw14204823869929384073:=True
def tw513005606438955169:=True
def tw15720503100798958080:=True
def tw477278278626943094:=True
def tw11807406346936085521:=True
def tw8914008921448317861:=True
def tw222458587159506817:=True
def tw15266349367044267854:=True
def tw10402844070324459780:=True
def tw4344812326457667244:=True
def tw14233553837690250730:=True
def tw1160215725700746923:=True
def tw6013732886842322007:=True
def tw3389722045823070620:=True
def tw11992136843937911535:=True
def tw14562507204147832040:=True
def tw4311045786178695364:=True
def tw929352743209543007:=True
def tw16859354983909901183:=True
def tw10006582616897081145:=True
def tw10676971187919969510:=True
def tw7591402778804540754:=True
def tw6477704123259549262:=True
def tw5810339231678414005:=True
def tw5856264819112728020:=True
def tw12482200487637181401:=True
def tw8298672360417352168:=True
def tw15113431946868946781:=True
def tw15289047525537150635:=True
def tw18366512518603614840:=True
def tw18441964724968404119:=True
def tw5266230898364520507:=True
def tw6743514565716447211:=True
def tw13479723464530289419:=True
def tw2767922137636188828:=True
def tw229915819631643194:=True
def tw14951182121656273819:=True
def tw14882294452342321373:=True
def tw6893546497641998704:=True
def tw1727791878702259216:=True
def tw14941415076483763962:=True
def tw2455187189852508131:=True
def tw10559147290554872940:=True
def tw5863724919350916873:=True
def tw46659475569477864:=True
def tw1743526695073756365:=True
def tw6190388798503830724:=True
def tw7283419110874587053:=True
def tw6232960330081865848:=True
def tw14847229529956267866:=True
def tw10043834060374601056:=True
def tw13806005938606116666:=True
def tw7879725201748948576:=True
def tw2684515012650411032:=True
def tw10634580909950287647:=True
def tw14104320629716537131:=True
def tw1636437973035628045:=True
def tw534318095337744627:=True
def tw3637843315264040724:=True
def tw4911765688553384493:=True
def tw6372668014499622775:=True
def tw16159737532400126269:=True
def tw16748815379967743920:=True
def tw6285604059285450280:=True
def tw17118253508128766438:=True
def tw11381779574374198173:=True
def tw13434714201406150082:=True
def tw10158443189792357315:=True
def tw6704996971759313750:=True
def tw15239431277977537466:=True
def tw11149769947533312824:=True
def tw13899944232051003570:=True
def tw3019804113327870093:=True
def tw15069076790561863201:=True
def tw2727684065509078607:=True
def tw12361694237804235754:=True
def tw10773167370179511130:=True
def tw1642990158979385037:=True
def tw15491237217520474925:=True
def tw14037694604911994256:=True
def tw6574162330536261823:=True
def tw17517703777145792013:=True
def tw8410502130519771029:=True
def tw17444380912093417342:=True
def tw2100446389736417375:=True
def tw8545714031911281488:=True
def tw13753770256047743529:=True
def tw12871458346896916827:=True
def tw5928626875851777850:=True
def tw10872897953760387269:=True
def tw9985005617883165880:=True
def tw8582187477388120129:=True
def tw5352329410314296844:=True
def tw12028743017661600286:=True
def tw2043623902123591976:=True
def tw16605254171821909955:=True
def tw7914255198886259602:=True
def tw1981115467864289316:=True
def tw87338304871391789:=True
def tw6192833057441275720:=True
def tw10975319254247357669:=True
def tw17305811721735164405:=True
def tw6904042868320053861:=True
def tw626696500009388147:=True
def tw4321701954304440154:=True
def tw3527956564670850026:=True
def tw3791952518774813343:=True
def tw18142737713284077321:=True
def tw3578923988131111148:=True
def tw7921085658859955724:=True
def tw16712392565524124088:=True
def tw3907024656319693505:=True
def tw9611581114326341354:=True
def tw7097895649412617562:=True
def tw11183994510384506652:=True
def tw13880715845325369581:=True
def tw6658052466719814655:=True
def tw1499579060393644250:=True
def tw11493844974663300754:=True
def tw14785113644163316884:=True
def tw463592959530538751:=True
def tw17332518857721784942:=True
def tw4203518752531648031:=True
def tw6943184647599026698:=True
def tw9173232396479088664:=True
def tw6885417997323685665:=True
end PySem.W.Fast
set_option maxRecDepth 100000 in
set_option maxHeartbeats 0 in
open_top PySem.Challenge.hd for PySem.Challenge.rw_ringbeat_k89_greatest_counts
open Array renaming length_toList→dQ,replicate→hJ,getElem?_toList→jD,all_toList→sK,toList_inj→sL,mem_def→vA,toList_replicate→wF,mem_of_getElem?→wV,find?_toList→zV,toList→C5
open Bool renaming false_ne_true→cZ,and_eq_true→dE,false_eq_true→eM,or_eq_true→jC,or_eq_false_iff→qA,eq_iff_iff→BU,or_false→C6
open Int renaming toNat_natCast→fK,toNat_of_nonneg→qZ,zero_add→sM,fdiv_eq_ediv_of_nonneg→vB,emod_lt_of_pos→AU,emod_nonneg→Ce,le_antisymm→Cf
open List renaming mem_cons_self→cK,mem_cons→cP,mem_cons_of_mem→cQ,mem_append_right→cR,mem_append_left→cV,length_cons→cX,replicate→cY,nodup_append→c8,mem_append→dc,size_toArray→de,lookup_cons→df,not_mem_nil→dm,length_map→dr,map_cons→dC,getD_eq_getElem?_getD→dG,getElem?_eq_some_iff→dM,nodup_cons→dO,mem_map→dP,append_nil→dU,getElem?_eq_getElem→dY,nodup_nil→dZ,length_append→ee,mem_singleton→ef,zip_cons_cons→eh,append_assoc→et,range→eF,getElem?_map→eU,mem_map_of_mem→eZ,map_map→fk,find?_cons→fE,mem_range→fM,getElem?_append_right→fZ,getElem?_set_self→f6,getElem?_append_left→ga,set→gh,replicate_succ→gA,take_of_length_le→gG,all_cons→gJ,all_eq_true→gL,length_replicate→gU,drop_eq_getElem_cons→hU,length_zip→ij,range'→ip,mem_of_getElem?→iq,contains_cons→iY,flatten_cons→jH,getElem?_set_ne→jT,length_drop→ka,length_take→kb,any_cons→kJ,getElem?_take_of_lt→kK,map_append→kM,drop_of_length_le→lq,length_range→lr,getElem_mem→lM,lookup→lT,forIn_cons→ma,range_succ→mh,getElem?_drop→mV,sublist_append_right→nv,ext_getElem?→nN,getElem?_cons_succ→n4,getElem?_replicate→n6,drop_eq_nil_of_le→oP,of_mem_zip→o7,getElem?_eq_none→pz,length_singleton→pA,range_eq_range'→qB,forIn_nil→qC,filterMap_cons→qP,length_reverse→qQ,map_congr_left→qR,findIdx?_eq_some_iff_getElem→rT,mem_range'_1→sd,map_nil→si,length_set→tQ,mem_filter→tR,filter_cons_of_neg→wG,filter_cons_of_pos→wH,length_eq_zero_iff→wI,Sublist→wW,range_succ_eq_map→wX,set_set→wY,getElem_toArray→yK,length→yL,getElem?_range→zW,findIdx?_cons→Ar,foldl→As,mem_filterMap→Au,getElem?_set→AV,reverse_cons→AW,any_eq_true→Be,getElem_inj→Bf,zipIdx_cons→Bg,zip_append→BV,Pairwise→C7,contains→C8,sum_cons→C9
open Nat renaming le_refl→di,ne_of_lt→dB,lt_of_lt_of_le→dF,le_trans→eQ,zero_le→e8,lt_irrefl→iF,min_self→i7,lt_succ_of_lt→jJ,ne_of_gt→kc,le_succ→l7,pow_le_pow_right→l9,lt_succ_self→oy,add_mul→qH,log2_lt→qI,lt_of_le_of_lt→rV,mod_lt→rW,le_of_lt→sN,le_of_succ_le→sO,min_eq_right→tK,min_eq_left→uE,isDigit_of_mem_toDigits→uN,mul_le_mul→vC,add_sub_cancel_left→wZ,length_toDigits_pos→xA,le_of_eq→xY,le_total→xZ,succ_mul→yA,zero_add→yB,repr→zY,lt_trichotomy→Bh,lt_succ_iff→Cg
open Option renaming bind→dX,bind_some→gj,map_eq_some_iff→kX,getD_some→sj,map_some→tF,isSome_iff_exists→uO,isSome_map→zZ,getD_none→Av
open PyProof.Rows renaming callWith_type1→eJ,callWith_kw→sk,boot_zip→tM
open PySem renaming Value→cJ,Addr→cN,wpAny_bind→cO,FuncData→cT,Shared→cU,Heap→c7,wpAny→dg,wpAny_pure→dw,model→dz,PyData→dD,NameKind→dI,starEach→dJ,sizeLine_eq→dW,Around→d6,World→d8,Stmt→eo,mainGlobals→eI,Program→eL,bootBuiltins→eP,eval→eW,compareOp→eX,strIterType→fN,wpAny_Call_Name_kw→fR,keywordEach→fY,behindInMarks→f9,wpAny_mono→gb,swapsWith→gk,assignEach→gx,Obj→gz,sysModules→gK,binaryOp→ik,holding→ir,wpAny_truthy_bool→iO,wpAny_holding→iR,backTo→i8,backToKw→i9,wpAny_passesOwn→jS,standAt→kN,codeAny→lx,tupleKind_room_in1→lB,PassesOwn→lC,getMethod→lD,cLine→lS,call_meets→my,attributeBase→mz,Pos→mR,callWith→mS,sliceBounds→mU,letOwnedTupleGo→mY,wpAny_newObj_type→oQ,assign→o8,wpAny_standAt→o9,tupleKind→pT,wpAny_pyIter_zip→pU,wpAny_execs_nil→qS,Data→rc,Operator→rX,Scope→rY,Keyword→sm,getItem→su,BindsTo→uF,callerA→uG,codeAny_mono→uH,seqIndex_neg→uI,valueAt→uJ,wpAny_pyIter_list→uK,Sem→uP,seqIndex_of→vP,subscripted→vQ,Code→wJ,wpAny_specialOf→wK,setItem→xB,atKey→yC,isTrue→yD,newFunctionEnv→yE,typeLookup→yF,CmpOp→Aw,bindC→Ax,bindL→Ay,concat_meets→AX,builtinsNs→Dd,revObj→De,typeIs_int→Df,wpAny_Name→Dg
open PySem.Heap renaming get?_push_of_some→cS,lt_size→cW,get?_push_size→dq,SameBut→fe,get?_update_other→fH,size_push→gQ,get?_update_self→gS,get?_none_of_le→yJ,get?_push_ne→AT,size_update→Bd
open PySem.W renaming Frag→cL,kia_one→fC,emptyDict→fS,findIn→fT,keepIn→fU,instObj→gX,kitOne→iG,callWith_K→ky,specialIn→kU,methodCall_KW→lz,plainGet→nO,cellsFrom_some→nW,fnOf→nX,lookIn→pj,plainGet_of→pV,hasDictIn→rh,kitx_list→rj,methodObj→rm,OpenLaw→sP,findCls→sQ,makesIn→sR,readsIn→sS,takerIn→sT,codeIn→tN,isFn→vD,kas_swaps_map→vR,callWith_K0→xC,kitx_dict→yM,plainOver→yN,handedIn→Aa,isClsIn→Az,takesIn→AC,exmOne→AY,typeIn→AZ,WalkO→Bi,mroIn→Bj,subIn→Bk
open Option renaming some→U,none→G
open Bool renaming true→Â,false→Ã
local macro_rules| `(tactic|walk_at "v1")=>`(tactic|first|exact Or.inl rfl|exact Or.inr (Or.inl rfl)|exact Or.inr<|Or.inr rfl)
local macro_rules| `(tactic|walk_at "v2")=>`(tactic|first|exact .inl rfl|exact .inr rfl|assumption)
local macro_rules| `(tactic|walk_at "v3")=>`(tactic|first|exact Or.inl rfl|exact Or.inr rfl)
abbrev kW (x:PySem.Str):Prop:=(x==("__debug__":PySem.Str))=Ã
abbrev sU (x:PySem.Str):Prop:=(x==("__classdict__":PySem.Str))=Ã
namespace L2
open PySem PySem.Spec PyProof.Rows
noncomputable abbrev kL:=Sum Int Str
def vH:kL->cJ->Bool
 |.inl k,v=>cJ.isInt k v
 |.inr x,v=>cJ.isStrOf x v
def K1 (w:d8):kL->Int
 |.inl k=>hashInt k
 |.inr x=>hashStr w x
theorem xf:∀{k:kL} {v:cJ},vH k v=Â->(∃i t,k=Sum.inl i/\v=cJ.int i t)\/(∃x t,k=Sum.inr x/\v=cJ.str x t)
 |.inl i,v,h=>by obtain⟨t,e⟩:=cJ.isInt_shape (k:=i) (v:=v) h;exact .inl ⟨i,t,rfl,e⟩
 |.inr x,v,h=>by obtain⟨t,e⟩:=cJ.isStrOf_shape (x:=x) (v:=v) h;exact .inr ⟨x,t,rfl,e⟩
theorem Yz (i:Int)(t:Tok):vH (.inl i) (.int i t)=Â:=by simp[vH,cJ.isInt]
theorem YA (x:Str)(t:Tok):vH (.inr x) (.str x t)=Â:=by simp[vH,cJ.isStrOf]
theorem ϑ (a b:Int):decide ((Sum.inl a:kL)=Sum.inl b)=(a==b):=by
 by_cases e:a=b
 ·subst e;simp
 ·have h:¬(Sum.inl a:kL)=Sum.inl b:=λq=>e<|Sum.inl.inj q;rw[decide_eq_false h];exact(beq_eq_false_iff_ne.mpr e).symm
theorem ϐ (a b:Str):decide ((Sum.inr a:kL)=Sum.inr b)=decide (a=b):=by
 by_cases e:a=b
 ·subst e;simp
 ·have h:¬(Sum.inr a:kL)=Sum.inr b:=λq=>e<|Sum.inr.inj q;rw[decide_eq_false h,decide_eq_false e]
theorem Ϗ (a:Int)(b:Str):decide ((Sum.inl a:kL)=Sum.inr b)=Ã:=decide_eq_false<|λq=>nomatch q
theorem ώ (a:Str)(b:Int):decide ((Sum.inr a:kL)=Sum.inl b)=Ã:=decide_eq_false<|λq=>nomatch q
def hZ (prog:eL)(w:d8):PySem.KeyKind prog w kL where
 is:=vH
 hash:=K1 w
 inj:=λv a b ha hb=>by
  rcases xf ha with⟨i,t,rfl,rfl⟩|⟨x,t,rfl,rfl⟩
  ·rcases xf hb with⟨j,u,rfl,e⟩|⟨y,u,rfl,e⟩
   ·injection e with e1 _;rw[e1]
   ·exact nomatch e
  ·rcases xf hb with⟨j,u,rfl,e⟩|⟨y,u,rfl,e⟩
   ·exact nomatch e
   ·injection e with e1 _;rw[e1]
 byValue:=λk v h=>by rcases xf h with⟨i,t,rfl,rfl⟩|⟨x,t,rfl,rfl⟩<;>rfl
 pyHash:=λhv h=>by
  rcases xf hv with⟨i,t,rfl,rfl⟩|⟨x,t,rfl,rfl⟩
  ·exact wpAny_pyHash_int h
  ·exact wpAny_pyHash_str h
 eqBool:=λhu hv h=>by
  rcases xf hu with⟨i,t,rfl,rfl⟩|⟨x,t,rfl,rfl⟩
  ·rcases xf hv with⟨j,u,rfl,rfl⟩|⟨y,u,rfl,rfl⟩
   ·rw[ϑ]at h;exact wpAny_eqBool_int h
   ·rw[Ϗ]at h;exact SeqAt.EqAt.int_str i t y u _ _ _ _ h
  ·rcases xf hv with⟨j,u,rfl,rfl⟩|⟨y,u,rfl,rfl⟩
   ·rw[ώ]at h;exact SeqAt.EqAt.str_int x t j u _ _ _ _ h
   ·rw[ϐ]at h;exact wpAny_eqBool_str h
 «strs»:=λk x t v h=>by
  rcases xf h with⟨i,u,rfl,e⟩|⟨y,u,rfl,e⟩
  ·exact nomatch e
  ·injection e with e1 _;subst e1;cases v<;>rfl
theorem Xk (prog:eL)(w:d8)(i:Int)(t:Tok):(hZ prog w).is (.inl i) (.int i t)=Â:=Yz i t
theorem Xl (prog:eL)(w:d8)(x:Str)(t:Tok):(hZ prog w).is (.inr x) (.str x t)=Â:=YA x t
inductive V where
 |non|bl (b:Bool)|int (i:Int)|str (x:Str)|byt (b:Array UInt8)|flt (b:UInt64)|ref (a:cN)|ty (n:String)
 deriving DecidableEq
noncomputable def Ì:V->cJ->Prop
 |.non,u=>u=cJ.none
 |.bl b,u=>u=cJ.bool b
 |.int i,u=>∃t,u=cJ.int i t
 |.str x,u=>∃t,u=cJ.str x t
 |.byt b,u=>∃t,u=cJ.bytes b t
 |.flt b,u=>∃t,u=cJ.float b t
 |.ref a,u=>u=cJ.ref a
 |.ty n,u=>u=cJ.type n
abbrev ez:List V->List cJ->Prop:=Paired Ì
variable {us:List cJ}{xs:List V}
theorem ez.length (r:ez xs us):xs.length=us.length:=Paired.length r
theorem ez.get:∀{xs:List V} {us:List cJ} {i:Nat} {x:V},ez xs us->xs[i]?=U x->∃u,us[i]?=U u/\Ì x u
 |_,_,_,_,.nil,e=>by simp at e
 |_,_,0,_,.cons r _,e=>by simp at e;subst e;exact⟨_,rfl,r⟩
 |_,_,i+1,x,.cons _ t,e=>by obtain⟨u,h1,h2⟩:=ez.get (i:=i) (x:=x) t (by simpa using e);exact⟨u,by simpa using h1,h2⟩
variable {u:cJ}
theorem ez.set {x:V}{u:cJ}(r:Ì x u):∀{xs:List V} {us:List cJ} (i:Nat),ez xs us->ez (xs.set i x) (us.set i u)
 |_,_,_,.nil=>.nil
 |_,_,0,.cons _ t=>.cons r t
 |_,_,i+1,.cons q t=>.cons q<|ez.set r i t
theorem ez.append:∀{xs ys:List V} {us ws:List cJ},ez xs us->ez ys ws->ez (xs++ys) (us++ws)
 |_,_,_,_,.nil,s=>s
 |_,_,_,_,.cons r t,s=>.cons r<|ez.append t s
theorem ez.take:∀{xs:List V} {us:List cJ} (n:Nat),ez xs us->ez (xs.take n) (us.take n)
 |_,_,0,_=>.nil
 |_,_,_+1,.nil=>.nil
 |_,_,n+1,.cons r t=>.cons r<|ez.take n t
theorem ez.drop:∀{xs:List V} {us:List cJ} (n:Nat),ez xs us->ez (xs.drop n) (us.drop n)
 |_,_,0,r=>r
 |_,_,_+1,.nil=>.nil
 |_,_,n+1,.cons _ t=>ez.drop n t
def oS:Option V->Option cJ->Prop
 |some v,U u=>Ì v u
 |none,G=>True
 |_,_=>False
variable {κ:Type}
def KV:List (κ×V)->List (κ×cJ)->Prop:=Paired λ(p:κ×V) (q:κ×cJ)=>p.1=q.1/\Ì p.2 q.2
def kV:kL->V
 |.inl i=>.int i
 |.inr x=>.str x
inductive HO where
 |lst (xs:List V)
 |tup (xs:List V)
 |dK (fm:List<|kL×V)|dT (fm:List<|List kL×V)
 |set (W':Int->Bool) (n:Nat)
 |ins (KK dx:cN) (fs:List<|Str×V)
 |own (x:cN)
 |xd (fs:List<|Str×V)
 |met (f x:cN)
 |rng (lo hi:Int)
 |frz (o:gz) (u:HO)
 |tbl (ps:Array cJ)
 |ext (φ:c7->Prop)
noncomputable abbrev Hp:=cN->Option HO
def upd (H:Hp)(a:cN)(o:HO):Hp:=λb=>if b=a then U o else H b
variable {H:Hp}
theorem zu {a:cN}{o:HO}:upd H a o a=U o:=by unfold upd;rw[if_pos rfl]
variable {b:cN}
theorem zo {a:cN}{o:HO}(h:b≠a):upd H a o b=H b:=by unfold upd;rw[if_neg h]
theorem Ľ {a:cN}{o u:HO}(h:H a=U o)(h':H b=U u)(d:o≠u):a≠b:=by intro e;subst e;rw[h]at h';exact d<|Option.some.inj h'
theorem z7 {a:cN}{o:HO}(h:H a=U o)(h':H b=G):a≠b:=by intro e;subst e;rw[h]at h';cases h'
section
variable (P:eL)(w:d8)
def hV (H:Hp)(h:c7)(a:cN):HO->Prop
  |.lst xs=>xs.length<=sizeLine/\∃(eE:List cJ) (n:Nat),ez xs eE/\h.get? a=U { cls:=.type "list",data:=.seq eE.toArray n }
  |.tup xs=>xs.length<=sizeLine/\∃eE:List cJ,ez xs eE/\IsTup h a eE.toArray
  |.dK fm=>fm.length<=sizeLine/\(a==gK)=Ã/\∃vs,KV fm vs/\h.DictOf (hZ P w) a vs
  |.dT fm=>fm.length<=sizeLine/\(a==gK)=Ã/\∃xs:List (List kL×cN×cJ),
      Paired (λ(p:List kL×V) (q:List kL×cN×cJ)=>p.1=q.1/\H q.2.1=U (.tup<|p.1.map kV)/\Ì p.2 q.2.2) fm xs /\
      ∃o es ep,h.get? a=U o/\o.ExactDict/\o.data=.dict es ep/\es.toList=xs.map (entryOfKey<|pT<|hZ P w)/\(xs.map (·.1)).Nodup
  |.set W' n=>h.SetOf (intKind P w) a W' n
  |.ins KK dx fs=>H dx=U (.own a)/\fs.length<=1000/\dx≠a/\h.get? a=U (gX KK dx) /\
      ∃mA,h.Ns1 dx mA/\(∀f,oS (fs.lookup f)<|mA f)/\PySem.Within mA (fs.map (·.1))
  |.own _=>∃o,h.get? a=U o
  |.xd fs=>∃mA,h.Ns1 a mA/\∀f,oS (fs.lookup f) (mA f)
  |.rng lo hi=>∃t u v,h.get? a=U { cls:=.type "range",data:=.fields #[.int lo t,.int hi u,.int 1 v] }
  |.frz o u=>h.get? a=U o/\hV H h a u
  |.tbl ps=>h.get? a=U { cls:=.none,data:=.fields ps }
  |.met f x=>h.get? a=U (rm (.ref f)<|.ref x)
  |.ext φ=>φ h/\(∃o,h.get? a=U o)/\∀h1 h2:c7,φ h1->(∀o,h1.get? a=U o->h2.get? a=U o)->φ h2
def rn (H:Hp)(h:c7):Prop:=∀a o,H a=U o->hV P w H h a o
end
variable {α β:Type}{H':Hp}{P:eL}{h h':c7}
section
variable {w:d8}{a:cN}{o:HO}
theorem hV.lt (x:hV P w H h a o):a<h.objs.size:=by
 cases o with
 |lst xs=>obtain⟨_,_,_,_,e⟩:=x;exact cW e
 |tup xs=>obtain⟨_,_,_,p⟩:=x;exact p.lt
 |dK fm=>obtain⟨_,_,_,_,o,_,_,e,_⟩:=x;exact cW e
 |dT fm=>obtain⟨_,_,_,_,o,_,_,e,_⟩:=x;exact cW e
 |set W' n=>obtain⟨o,_,_,_,e,_⟩:=x;exact cW e
 |ins KK dx fs=>obtain⟨_,_,_,e,_⟩:=x;exact cW e
 |own y=>obtain⟨_,e⟩:=x;exact cW e
 |xd fs=>obtain⟨_,⟨_,_,_,e,_⟩,_⟩:=x;exact cW e
 |rng lo hi=>obtain⟨_,_,_,e⟩:=x;exact cW e
 |frz ob u=>obtain⟨e,_⟩:=x;exact cW e
 |tbl ps=>exact cW<|show h.get? a=U _ from x
 |met f y=>exact cW<|show h.get? a=U _ from x
 |ext φ=>obtain⟨_,⟨_,e⟩,_⟩:=x;exact cW e
theorem Paired.mapP {α β:Type}{F V':α->β->Prop}:∀{l₁:List α} {l₂:List β},Paired F l₁ l₂->(∀a b,F a b->V' a b)->Paired V' l₁ l₂
 |_,_,.nil,_=>.nil
 |_,_,.cons r t,f=>.cons (f _ _ r)<|Paired.mapP t f
theorem hV.stay (x:hV P w H h a o)(k:∀b u,(b=a\/H b=U (.own a))->h.get? b=U u->h'.get? b=U u)
    (ho:∀b,H b=U (.own a)->H' b=U (.own a)) (ht:∀b xs,H b=U (.tup xs)->H' b=U (.tup xs)):hV P w H' h' a o:=by
  induction o with
  |lst xs=>obtain⟨z,eE,n,r,e⟩:=x;exact⟨z,eE,n,r,k _ _ (.inl rfl) e⟩
  |tup xs=>obtain⟨z,eE,r,ob,e,c⟩:=x;exact⟨z,eE,r,ob,k _ _ (.inl rfl) e,c⟩
  |dK fm=>obtain⟨z,y,vs,r,ob,es,ep,e,c⟩:=x;exact⟨z,y,vs,r,ob,es,ep,k _ _ (.inl rfl) e,c⟩
  |dT fm=>obtain⟨z,y,xs,r,ob,es,ep,e,c⟩:=x;exact⟨z,y,xs,Paired.mapP r λp q z=>⟨z.1,ht _ _ z.2.1,z.2.2⟩,ob,es,ep,k _ _ (.inl rfl) e,c⟩
  |set W' n=>obtain⟨ob,es,ep,t,e,c⟩:=x;exact⟨ob,es,ep,t,k _ _ (.inl rfl) e,c⟩
  |ins KK dx fs=>obtain⟨d,z,ne,e,mA,⟨od,es,ep,L,c⟩,r⟩:=x;exact⟨ho _ d,z,ne,k _ _ (.inl rfl) e,mA,⟨od,es,ep,k _ _ (.inr d) L,c⟩,r⟩
  |own y=>obtain⟨ob,e⟩:=x;exact⟨ob,k _ _ (.inl rfl) e⟩
  |xd fs=>obtain⟨mA,⟨od,es,ep,e,c⟩,r⟩:=x;exact⟨mA,⟨od,es,ep,k _ _ (.inl rfl) e,c⟩,r⟩
  |rng lo hi=>obtain⟨t,u,v,e⟩:=x;exact⟨t,u,v,k _ _ (.inl rfl) e⟩
  |frz ob u ih=>obtain⟨e,q⟩:=x;exact⟨k _ _ (.inl rfl) e,ih q⟩
  |tbl ps=>have e:h.get? a=U { cls:=.none,data:=.fields ps }:=x;show h'.get? a=U { cls:=.none,data:=.fields ps };exact k a _ (.inl rfl) e
  |met f y=>have e:h.get? a=U (rm (.ref f)<|.ref y):=x;show h'.get? a=U (rm (.ref f)<|.ref y);exact k a _ (.inl rfl) e
  |ext φ=>obtain⟨p,⟨o,e⟩,st⟩:=x;exact⟨st _ _ p λo q=>k _ _ (.inl rfl) q,⟨o,k _ _ (.inl rfl) e⟩,st⟩
theorem rn.lt (x:rn P w H h)(e:H a=U o):a<h.objs.size:=(x a o e).lt
theorem rn.fresh (x:rn P w H h)(e:h.objs.size<=a):H a=G:=by
 cases q:H a with
 |none=>rfl
 |some u=>exact absurd (dF (x.lt q) e)<|iF _
theorem rn.kept (x:rn P w H h)(k:∀b u,h.get? b=U u->h'.get? b=U u):rn P w H h':=λa o e=>(x a o e).stay (λb u _ q=>k b u q) (λ_ q=>q) λ_ _ q=>q
theorem rn.laid (x:rn P w H h)(k:∀b u,h.get? b=U u->h'.get? b=U u)(hp:h.objs.size<=a)(new:hV P w (upd H a o) h' a o):rn P w (upd H a o) h':=λb u e=>by
 have hn:=x.fresh hp;by_cases hb:b=a
 ·subst hb;rw[zu]at e;cases e;exact new
 ·rw[zo hb]at e;exact(x b u e).stay (λc v _ q=>k c v q) (λc q=>by rw[zo<|z7 q hn];exact q) λc xs q=>by rw[zo<|z7 q hn];exact q
end
def Rd (H:Hp)(a:cN)(u:HO):Prop:=H a=U u\/∃o,H a=U (.frz o u)
theorem Rd.ok {w:d8}{a:cN}{u:HO}(r:Rd H a u)(x:rn P w H h):hV P w H h a u:=by
 rcases r with r|⟨o,r⟩
 ·exact x a u r
 ·obtain⟨_,q⟩:=x a _ r;exact q
def FK:Option HO->Prop
 |some (.lst _)=>True
 |some (.dK _)=>True
 |some (.dT _)=>True
 |some (.set _ _)=>True
 |some (.ins _ _ _)=>True
 |some (.ext _)=>True
 |_=>False
section
variable {w:d8}{x e:cN}{o':HO}
theorem rn.write (ok:rn P w H h)(mu:FK<|H x)(he:e=x\/H e=U (.own x))(k:∀b u,b≠e->h.get? b=U u->h'.get? b=U u)(Fc:∃u,h'.get? e=U u)
  (new:hV P w (upd H x o') h' x o'):rn P w (upd H x o') h':=λb u q=>by
 have GV:∀c y,H c=U (.own y)->c≠x:=λc y r z=>by subst z;rw[r]at mu;exact mu
 have La:∀c xs,H c=U (.tup xs)->c≠x:=λc xs r z=>by subst z;rw[r]at mu;exact mu
 by_cases hb:b=x
 ·subst hb;rw[zu]at q;cases q;exact new
 ·rw[zo hb]at q;by_cases D5:b=e
  ·have q':H b=U (.own x):=by
    rcases he with z|z
    ·exact absurd (D5.trans z) hb
    ·rw[D5];exact z
   rw[q]at q';cases q';obtain⟨v,hv⟩:=Fc;exact⟨v,by rw[D5];exact hv⟩
  ·refine(ok b u q).stay (λc v hc r=>k c v ?_ r) (λc r=>by rw[zo<|GV c b r];exact r) λc xs r=>by rw[zo<|La c xs r];exact r
   rcases hc with rfl|hc
   ·exact D5
   ·rintro rfl;rcases he with z|z
    ·exact GV c b hc z
    ·rw[hc]at z;cases z;exact hb rfl
end
structure Un (fs ex:List cN)(H H':Hp)(h h':c7):Prop where
 keep:∀b o,h.get? b=U o->H b=G->b∉fs->b∉ex->h'.get? b=U o
 slot:∀b o,h.get? b=U o->H b=G->b∈fs->b∉ex->∃sl,h'.get? b=U { o with slots:=sl }
 free:∀b o,h.get? b=U o->H b=G->b∉ex->H' b=G
 there:∀b o,h.get? b=U o->b∉ex->∃o',h'.get? b=U o'
 tups:∀b xs,H b=U (.tup xs)->H' b=U (.tup xs)
 frzs:∀b o u,H b=U (.frz o u)->H' b=U (.frz o u)
 tbls:∀b ps,H b=U (.tbl ps)->∃more,H' b=U (.tbl<|ps++more)
section
variable {fs E8 ex ex':List cN}{H1 H2:Hp}{h1 h2:c7}{a x e:cN}{o:HO}
theorem Un.any (u:Un fs ex H H1 h h1){ob:gz}(q:h.get? b=U ob)(n:H b=G)(hx:b∉ex):∃sl,h1.get? b=U { ob with slots:=sl }:=by
 by_cases hb:b∈fs
 ·exact u.slot b ob q n hb hx
 ·exact⟨ob.slots,u.keep b ob q n hb hx⟩
theorem Un.kept (k:∀b u,h.get? b=U u->h'.get? b=U u):Un fs ex H H h h' :=
 ⟨λb ob q _ _ _=>k b ob q,λb ob q _ _ _=>⟨ob.slots,k b ob q⟩,λ_ _ _ n _=>n,λb ob q _=>⟨ob,k b ob q⟩,λ_ _ q=>q,λ_ _ _ q=>q,λ_ ps q=>⟨#[],by rw[q];simp⟩⟩
theorem Un.refl:Un fs ex H H h h:=Un.kept λ_ _ q=>q
theorem Un.laid (k:∀b u,h.get? b=U u->h'.get? b=U u)(hp:h.objs.size<=a)(hn:H a=G):Un fs ex H (upd H a o) h h' where
 keep:=λb u q _ _ _=>k b u q
 slot:=λb u q _ _ _=>⟨u.slots,k b u q⟩
 free:=λb u q n _=>by rw[zo<|dB<|dF (cW q) hp];exact n
 there:=λb u q _=>⟨u,k b u q⟩
 tups:=λb xs q=>by rw[zo<|z7 q hn];exact q
 frzs:=λb u xs q=>by rw[zo<|z7 q hn];exact q
 tbls:=λb ps q=>⟨#[],by rw[zo<|z7 q hn,q];simp⟩
theorem Un.write (mu:FK<|H x)(he:e=x\/H e=U (.own x))(k:∀b u,b≠e->h.get? b=U u->h'.get? b=U u)(Fc:∃u,h'.get? e=U u):Un fs ex H (upd H x o) h h':=by
 have hx:∀b,H b=G->b≠x:=λb n z=>by subst z;rw[n]at mu;exact mu
 have hb:∀b,H b=G->b≠e:=λb n z=>by
  subst z;rcases he with r|r
  ·exact hx b n r
  ·rw[n]at r;cases r
 have hm:∀b u,H b=U u->¬FK (U u)->b≠x:=λb u q nm z=>by subst z;rw[q]at mu;exact nm mu
 refine⟨λb u q n _ _=>k b u (hb b n) q,λb u q n _ _=>⟨u.slots,k b u (hb b n) q⟩,λb u q n _=>by rw[zo<|hx b n];exact n,λb u q _=>?_,
  λb xs q=>by rw[zo<|hm b _ q λz=>z];exact q,λb u xs q=>by rw[zo<|hm b _ q λz=>z];exact q,λb ps q=>⟨#[],by rw[zo<|hm b _ q λz=>z,q];simp⟩⟩
 by_cases D5:b=e
 ·subst D5;exact Fc
 ·exact⟨u,k b u D5 q⟩
end
def IA (h:c7)(H:Hp):List cN:=(eF h.objs.size).filter λa=>(H a).isSome
def vT (h:c7)(H:Hp):c7:=PySem.W.hideAll h<|IA h H
theorem YB (h:c7)(H:Hp):(vT h H).objs.size=h.objs.size:=PySem.W.hideAll_size _ _
theorem Za {o:gz}(e:h.get? b=U o)(n:H b=G):(vT h H).get? b=U o :=
 PySem.W.hideAll_get _ e λhm=>by have q:(H b).isSome=Â:=(tR.mp hm).2;rw[n]at q;simp at q
theorem zs5 {o:gz}(e:(vT h H).get? b=U o):h.get? b=U o/\H b=G:=by
 have e':h.get? b=U o:=PySem.W.of_hideAll (IA h H) e;refine⟨e',?_⟩;cases q:H b with
 |none=>rfl
 |some x=>have hm:b∈IA h H:=tR.mpr ⟨fM.mpr<|cW e',by simp[q]⟩;have z:(vT h H).get? b=G:=PySem.W.hideAll_none (IA h H) hm;rw[z]at e;cases e
noncomputable def Cq (g h:c7)(K':cN):List (cN×gz):=(eF h.objs.size).filterMap λa=>if a=K'\/(g.get? a).isSome=Â then G else(h.get? a).map λo=>(a,o)
def Î (g h:c7)(K' d:cN):List (cN×gz):=(Cq g h K').filter λp=>decide<|p.1≠d
structure Mod (K:cL)(mg:Str->Option cJ)(base:c7):Prop where
 kin:K.In base
 glob:base.Ns eI mg
 blt:∃mb,base.Ns Dd mb/\∀x:Str,x≠"__name__"->mb x=eP x
 nolimit:base.NoLimit
structure Cx where
 prog:eL
 w:d8
 K:cL
 mg:Str->Option cJ
 base:c7
 A:d6
 N:List Str
 s₀:cU
 H₀:Hp
 env:Env
 outer:List Env
 stack:List Env
 ex:List cN
 fn:Str->Bool
 calm:Bool
 pn:List (cN×gz)
 xe:cJ->cU->Prop
abbrev SE (X:Cx)(e:Expr)(es:List Expr):Prop:=dJ (e::es) X.env=(Ã,eW e X.env)::dJ es X.env
abbrev SN (X:Cx)(e:Expr):Prop:=dJ [e] X.env=[(Ã,eW e X.env)]
abbrev pW (X:Cx)(p:mR)(es:List Expr):Prop:=(i8 p<|dJ es X.env).any (·.1)=Ã
abbrev uQ (X:Cx)(x:Str):Prop:=X.fn x=Â\/X.env.scope.names.lookup x=U .local
abbrev FR (X:Cx)(e:Expr)(x:Str)(p q:mR):Prop:=gk e (U<|.Name x p) q.line X.env=pure Ã
abbrev A0 (X:Cx)(i:Expr):Prop:=∀x,foldedSetIterable i X.env x=pure x
abbrev yO (X:Cx)(e:Expr)(x:Str):Prop:=mz e x X.env (eW e X.env)=eW e X.env
abbrev Bm (X:Cx)(p:mR)(es:List Expr):Prop:=((i8 p<|dJ es X.env).all (λx=>!x.1)&&(i9 p<|fY [] X.env).all (λx=>x.1.isSome)&&decide (es.length+([]:List sm).length+(if([]:List sm).isEmpty then 0 else 1)<30))=Â
noncomputable def Br (l:List Env):List cN:=l.filterMap (·.frame)
abbrev Cx.fs (X:Cx):List cN:=Br X.outer
def rZ (sc:rY)(x:Str):Prop:=sc.names.lookup x=U .local\/sc.names.lookup x=U .cell\/sc.names.lookup x=U .free
def ë (sc:rY)(x:Str):Prop:=sc.names.lookup x=U .local\/sc.names.lookup x=U .cell
def ġ (env:Env)(h:c7)(m:Str->Option cJ)(x:Str)(u:cJ):Prop :=
 (env.kindOf x=U .local/\m x=U u)\/((env.kindOf x=U .cell\/env.kindOf x=U .free)/\∃c,env.cells.lookup x=U c/\h.IsCell c (U u))
structure Cx.Ok (X:Cx):Prop where
 mod:Mod X.K X.mg X.base
 kind:X.env.scope.kind=.function
 glob:X.env.globals=eI
 blt:X.env.builtins=Dd
 above:X.s₀.heap.objs.size<=X.env.locals
 inj:∀x y c,X.env.cells.lookup x=U c->X.env.cells.lookup y=U c->x=y
 has:∀x,(X.env.kindOf x=U .cell\/X.env.kindOf x=U .free)->∃c,X.env.cells.lookup x=U c
 cab:∀x c,X.fn x=Â->X.env.cells.lookup x=U c->X.s₀.heap.objs.size<=c
 hd:X.calm=Â->X.A.handled=G
 frames:X.A.frames=U X.stack
 stk:X.stack=X.outer\/(X.stack=X.env::X.outer/\X.env.frame=U X.env.locals)
 exf:∀b∈X.ex,b≠X.env.locals/\∀x c,X.env.cells.lookup x=U c->c≠b
 bs:∀b o,X.base.get? b=U o->X.s₀.heap.get? b=U o/\X.H₀ b=G
 bsz:X.base.objs.size<=X.s₀.heap.objs.size
 noex:∀b o,X.base.get? b=U o->b∉X.ex
 exfs:∀b∈X.ex,b∉X.fs
 funs:X.s₀.heap.FunFrames X.base X.outer
 frf:∀b∈X.fs,X.H₀ b=G
structure Ê (X:Cx)(cM:List<|cN×gz)(Z:List<|Option V)(H:Hp)(s:cU):Prop where
 ok:X.Ok
 os:s.os=X.s₀.os
 bare:AllBare s.gens
 base:Un X.fs X.ex X.H₀ H X.s₀.heap s.heap
 loc:∃m,s.heap.Ns X.env.locals m/\∀(i:Nat) (x:Str) (v:V),X.N[i]?=U x->Z[i]?=U (U v)->rZ X.env.scope x->∃u,Ì v u/\ġ X.env s.heap m x u
 cell:∀x c,X.env.cells.lookup x=U c->∃v,s.heap.IsCell c v
 free:H X.env.locals=G
 freeC:∀x c,X.env.cells.lookup x=U c->H c=G
 pin:∀p∈X.pn++cM,s.heap.get? p.1=U p.2/\H p.1=G/\p.1≠X.env.locals/\p.1∉X.fs/\∀v,p.2.data≠.cell v
 hok:rn X.prog X.w H s.heap
 len:Z.length=X.N.length
variable {E:cJ->cU->Prop}{L':Model}{X:Cx}{ch:List cN}{j t':Nat}{cM:List (cN×gz)}{s s':cU}{x:Str}
section
variable {Z:List (Option V)}
theorem Cx.Ok.nofr (ok:X.Ok){o:gz}(e:X.base.get? b=U o):b∉X.fs:=λhb=>by have:=(ok.funs.mem hb).1;rw[e]at this;cases this
theorem Ê.bs (I:Ê X cM Z H s):∀b o,X.base.get? b=U o->s.heap.get? b=U o/\H b=G:=λb o e=>⟨I.base.keep b o (I.ok.bs b o e).1 (I.ok.bs b o e).2 (I.ok.nofr e)<|I.ok.noex b o e,I.base.free b o (I.ok.bs b o e).1 (I.ok.bs b o e).2<|I.ok.noex b o e⟩
theorem Ê.bk (I:Ê X cM Z H s):∀b o,X.base.get? b=U o->s.heap.get? b=U o:=λb o e=>(I.bs b o e).1
theorem Ê.mod (I:Ê X cM Z H s):Mod X.K X.mg X.base:=I.ok.mod
theorem Ê.kIn (I:Ê X cM Z H s):X.K.In s.heap:=I.ok.mod.kin.keeps I.bk
theorem Ê.fr (I:Ê X cM Z H s):∃m,Fr X.base X.env.locals s.heap m :=
 let⟨m,hn,_⟩:=I.loc
 ⟨m,hn,I.bk,eQ I.ok.bsz I.ok.above⟩
theorem Ê.lt (I:Ê X cM Z H s):X.env.locals<s.heap.objs.size:=let⟨_,hn,_⟩:=I.loc;hn.lt
theorem Ê.sz (I:Ê X cM Z H s):X.s₀.heap.objs.size<=s.heap.objs.size:=eQ I.ok.above<|sN I.lt
theorem Ê.nofs (I:Ê X cM Z H s){a:cN}(h:s.heap.objs.size<=a):a∉X.fs:=λhb=>by obtain⟨_,o,ho,_⟩:=I.ok.funs.mem hb;exact absurd (dF (cW ho)<|eQ I.sz h)<|iF _
theorem Ê.cne (I:Ê X cM Z H s):∀x c,X.env.cells.lookup x=U c->c≠X.env.locals:=λx c e z=>by obtain⟨v,o,ho,hd⟩:=I.cell x c e;obtain⟨m,⟨o',es,ep,B3,J8,_⟩,_⟩:=I.loc;rw[z,B3]at ho;cases ho;rw[J8]at hd;cases hd
theorem Ê.funs (I:Ê X cM Z H s):s.heap.FunFrames X.base X.outer:=by
 have all:∀(l:List Env),(∀b∈Br l,b∈X.fs)->X.s₀.heap.FunFrames X.base l->s.heap.FunFrames X.base l:=by
  intro l;induction l with
  |nil=>intro _ _;trivial
  |cons env r ih=>intro hs hl;obtain⟨hk,⟨K',o,hf,hn,ho,hd⟩,hr⟩:=hl;have hL:K'∈X.fs:=hs K' (by unfold Br;rw[qP,hf];exact cK);obtain⟨sl,e⟩:=I.base.slot K' o ho (I.ok.frf K' hL) hL λz=>I.ok.exfs K' z hL;exact⟨hk,⟨K',_,hf,hn,e,hd⟩,ih (λb hb=>hs b<|by unfold Br;rw[qP,hf];exact cQ _ hb) hr⟩
 exact all X.outer (λ_ hb=>hb) I.ok.funs
theorem Ê.stack (I:Ê X cM Z H s):s.heap.FunFrames X.base X.stack:=by
 rcases I.ok.stk with e|⟨e,hf⟩
 ·rw[e];exact I.funs
 ·rw[e];obtain⟨m,hn,_⟩:=I.loc;refine .cons (by rw[I.ok.kind];decide) hf hn ?_ I.funs;exact yJ<|eQ I.ok.bsz I.ok.above
theorem Ê.stkSub (I:Ê X cM Z H s):∀b∈Br X.stack,b∈X.env.locals::X.fs:=λb hb=>by
 rcases I.ok.stk with e|⟨e,hf⟩
 ·rw[e]at hb;exact cQ _ hb
 ·rw[e]at hb;unfold Br at hb;rw[qP,hf]at hb;exact hb
theorem Ê.stkFree (I:Ê X cM Z H s):∀b∈Br X.stack,H b=G:=λb hb=>by
 rcases cP.mp (I.stkSub b hb)with e|hb
 ·rw[e];exact I.free
 ·obtain⟨_,o,ho,_⟩:=I.ok.funs.mem hb;exact I.base.free b o ho (I.ok.frf b hb) λz=>I.ok.exfs b z hb
theorem Ê.step {g':Array GenState}{d':Drawn}(I:Ê X cM Z H s)
  (tO:∀b∈ch,(b∈X.ex\/X.s₀.heap.objs.size<=b)/\b≠X.env.locals/\(∀x c,X.env.cells.lookup x=U c->c≠b)/\∀p∈X.pn++cM,p.1≠b)
  (keep:∀b o,b≠X.env.locals->b∉X.fs->b∉ch->s.heap.get? b=U o->H b=G->h'.get? b=U o)
  (slot:∀b o,b≠X.env.locals->b∈X.fs->b∉ch->s.heap.get? b=U o->H b=G->∃sl,h'.get? b=U { o with slots:=sl }) (free:∀b o,b∉ch->s.heap.get? b=U o->H b=G->H' b=G)
  (there:∀b o,b∉ch->s.heap.get? b=U o->∃o',h'.get? b=U o')
  (tups:∀b xs,H b=U (.tup xs)->H' b=U (.tup xs)) (frzs:∀b o u,H b=U (.frz o u)->H' b=U (.frz o u)) (tbls:∀b ps,H b=U (.tbl ps)->∃more,H' b=U (.tbl<|ps++more))
  (ns:∀m,s.heap.Ns X.env.locals m->h'.Ns X.env.locals m) (hok:rn X.prog X.w H' h') (hg:AllBare g') :
  Ê X cM Z H' { s with heap:=h',gens:=g',drawn:=d',toks:=t' }:=by
 have N5:∀b o,X.s₀.heap.get? b=U o->b≠X.env.locals:=λb o e=>dB<|dF (cW e) I.ok.above;have Ip:∀b o,X.s₀.heap.get? b=U o->b∉X.ex->b∉ch:=λb o e hx hb=>by
  rcases(tO b hb).1 with z|z
  ·exact hx z
  ·exact absurd (dF (cW e) z)<|iF _
 have cellK:∀x c,X.env.cells.lookup x=U c->∀v,s.heap.IsCell c v->h'.IsCell c v:=λx c e v ⟨o,ho,hd⟩=>by
  have GP:c∉ch:=λz=>(tO c z).2.2.1 x c e rfl;by_cases hc:c∈X.fs
  ·obtain⟨sl,q⟩:=slot c o (I.cne x c e) hc GP ho<|I.freeC x c e;exact⟨_,q,hd⟩
  ·exact⟨o,keep c o (I.cne x c e) hc GP ho<|I.freeC x c e,hd⟩
 refine⟨I.ok,I.os,hg,⟨λb o e n hb hx=>?_,λb o e n hb hx=>?_,λb o e n hx=>?_,λb o e hx=>?_,λb xs e=>tups b xs<|I.base.tups b xs e,λb o xs e=>frzs b o xs<|I.base.frzs b o xs e,λb ps e=>?_⟩,?_,λx c e=>?_,?_,λx c e=>?_,λp hp=>?_,hok,I.len⟩
 ·exact keep b o (N5 b o e) hb (Ip b o e hx) (I.base.keep b o e n hb hx)<|I.base.free b o e n hx
 ·obtain⟨sl,e1⟩:=I.base.slot b o e n hb hx;obtain⟨U0,L⟩:=slot b _ (N5 b o e) hb (Ip b o e hx) e1<|I.base.free b o e n hx;exact⟨U0,L⟩
 ·obtain⟨o',e1⟩:=I.base.there b o e hx;exact free b o' (Ip b o e hx) e1<|I.base.free b o e n hx
 ·obtain⟨o',e1⟩:=I.base.there b o e hx;exact there b o' (Ip b o e hx) e1
 ·obtain⟨m1,e1⟩:=I.base.tbls b ps e;obtain⟨m2,L⟩:=tbls b _ e1;exact⟨m1++m2,by rw[L,Array.append_assoc]⟩
 ·obtain⟨m,hn,hl⟩:=I.loc;refine⟨m,ns m hn,λi x v e1 L e3=>?_⟩;obtain⟨u,r,l⟩:=hl i x v e1 L e3;refine⟨u,r,?_⟩;rcases l with l|⟨k,c,e,z⟩
  ·exact .inl l
  ·exact .inr ⟨k,c,e,cellK x c e _ z⟩
 ·obtain⟨v,z⟩:=I.cell x c e;exact⟨v,cellK x c e v z⟩
 ·obtain⟨m,⟨o,_,_,ho,_⟩,_⟩:=I.loc;exact free _ o (λz=>(tO _ z).2.1 rfl) ho I.free
 ·obtain⟨v,o,ho,hd⟩:=I.cell x c e;exact free c o (λz=>(tO c z).2.2.1 x c e rfl) ho<|I.freeC x c e
 ·obtain⟨e,n,ne,nf,d⟩:=I.pin p hp;have GP:p.1∉ch:=λz=>(tO p.1 z).2.2.2 p hp rfl;exact⟨keep p.1 p.2 ne nf GP e n,free p.1 p.2 GP e n,ne,nf,d⟩
theorem Ê.un (I:Ê X cM Z H s)(u:Un X.fs [] H H' s.heap h')(hok:rn X.prog X.w H' h'):Ê X cM Z H' { s with heap:=h',toks:=t' }:=by obtain⟨m,⟨o,es,ep,ho,r⟩,_⟩:=id I.loc;obtain⟨sl,hL⟩:=u.any ho I.free (by simp);exact I.step (g':=s.gens) (d':=s.drawn) (ch:=[]) (λ_ z=>nomatch z) (λb o _ hb _ e n=>u.keep b o e n hb<|by simp) (λb o _ hb _ e n=>u.slot b o e n hb<|by simp) (λb o _ e n=>u.free b o e n<|by simp) (λb o _ e=>u.there b o e<|by simp) u.tups u.frzs u.tbls (λm' hm=>by obtain⟨o',A7,JQ,B3,r'⟩:=hm;rw[ho]at B3;cases B3;exact⟨_,A7,JQ,hL,r'⟩) hok I.bare
theorem Ê.call {g':Array GenState}{d':Drawn}(I:Ê X cM Z H s)(u:Un (Br X.stack) ch H H' s.heap h')(hok:rn X.prog X.w H' h')(hg:AllBare g')
  (tO:∀b∈ch,(b∈X.ex\/X.s₀.heap.objs.size<=b)/\b≠X.env.locals/\(∀x c,X.env.cells.lookup x=U c->c≠b)/\∀p∈X.pn++cM,p.1≠b) :
  Ê X cM Z H' { s with heap:=h',gens:=g',drawn:=d',toks:=t' }:=by
 obtain⟨m,⟨o,es,ep,ho,r⟩,_⟩:=id I.loc;obtain⟨sl,hL⟩:=u.any ho I.free λz=>(tO _ z).2.1 rfl;exact I.step (ch:=ch) tO (λb o hL hb hc e n=>u.keep b o e n (λz=>(cP.mp<|I.stkSub b z).elim hL hb) hc) (λb o _ _ hc e n=>u.any e n hc) (λb o hc e n=>u.free b o e n hc) (λb o hc e=>u.there b o e hc) u.tups u.frzs u.tbls (λm' hm=>by obtain⟨o',A7,JQ,B3,r'⟩:=hm;rw[ho]at B3;cases B3;exact⟨_,A7,JQ,hL,r'⟩) hok hg
theorem Ê.turned {it:cN}(I:Ê X cM Z H s)(k:∀b o,b≠it->s.heap.get? b=U o->h'.get? b=U o)(hn:H it=G)(hL:it≠X.env.locals)
  (h1:it∈X.ex\/X.s₀.heap.objs.size<=it) (h2:∀x c,X.env.cells.lookup x=U c->c≠it) (h3:∀p∈X.pn++cM,p.1≠it):Ê X cM Z H { s with heap:=h',toks:=t' }:=by
 have N6:∀b u,H b=U u->b≠it:=λb u e z=>by rw[z,hn]at e;cases e
 refine I.step (g':=s.gens) (d':=s.drawn) (ch:=[it]) (λb hb=>?_) (λb o _ _ hc e _=>k b o (λz=>hc<|by simp[z]) e) (λb o _ _ hc e _=>⟨o.slots,k b o (λz=>hc<|by simp[z]) e⟩) (λ_ _ _ _ n=>n)
  (λb o hc e=>⟨o,k b o (λz=>hc<|by simp[z]) e⟩) (λ_ _ e=>e) (λ_ _ _ e=>e) (λb ps e=>⟨#[],by rw[e];simp⟩) (λm hm=>?_) (λb u e=>?_) I.bare
 ·have e:b=it:=by simpa using hb
  subst e;exact⟨h1,hL,h2,h3⟩
 ·obtain⟨o,es,ep,ho,r⟩:=hm;exact⟨o,es,ep,k _ o (Ne.symm hL) ho,r⟩
 ·refine(I.hok b u e).stay (λc v hc q=>k c v ?_ q) (λ_ q=>q) λ_ _ q=>q;rcases hc with z|z
  ·rw[z];exact N6 b u e
  ·exact N6 c _ z
theorem Ê.tok (I:Ê X cM Z H s)(t:Nat):Ê X cM Z H { s with toks:=t }:=I.un (h':=s.heap) (t':=t) Un.refl I.hok
theorem Ê.kept (I:Ê X cM Z H s)(k:∀b u,s.heap.get? b=U u->h'.get? b=U u):Ê X cM Z H { s with heap:=h',toks:=t' }:=I.un (Un.kept k)<|I.hok.kept k
theorem Ê.laid {a:cN}{o:HO}(I:Ê X cM Z H s)(k:∀b u,s.heap.get? b=U u->h'.get? b=U u)(hp:s.heap.objs.size<=a)(new:hV X.prog X.w (upd H a o) h' a o) :
  Ê X cM Z (upd H a o) { s with heap:=h',toks:=t' }:=I.un (Un.laid k hp<|I.hok.fresh hp)<|I.hok.laid k hp new
theorem Ê.write {x e:cN}{o:HO}(I:Ê X cM Z H s)(mu:FK<|H x)(he:e=x\/H e=U (.own x))(k:∀b u,b≠e->s.heap.get? b=U u->h'.get? b=U u)(Fc:∃u,h'.get? e=U u)
  (new:hV X.prog X.w (upd H x o) h' x o):Ê X cM Z (upd H x o) { s with heap:=h',toks:=t' }:=I.un (Un.write mu he k Fc)<|I.hok.write mu he k Fc new
theorem Ê.weak {σ':List (Option V)}(I:Ê X cM Z H s)(hl:σ'.length = Z.length)(w:∀(i:Nat) v,σ'[i]?=U (U v)->Z[i]?=U (U v)):Ê X cM σ' H s :=
 ⟨I.ok,I.os,I.bare,I.base,let⟨m,hn,B1⟩:=I.loc;⟨m,hn,λi x v e1 L e3=>B1 i x v e1 (w i v L) e3⟩,I.cell,I.free,I.freeC,I.pin,I.hok,hl.trans I.len⟩
theorem Ê.pins_of {DE:List (cN×gz)}(I:Ê X cM Z H s)(h:∀p∈DE,s.heap.get? p.1=U p.2/\H p.1=G/\p.1≠X.env.locals/\p.1∉X.fs/\∀v,p.2.data≠.cell v):Ê X DE Z H s :=
 ⟨I.ok,I.os,I.bare,I.base,I.loc,I.cell,I.free,I.freeC,λp hp=>(dc.mp hp).elim (λz=>I.pin p<|cV _ z)<|h p,I.hok,I.len⟩
theorem PX {N:List Str}(hN:N.Nodup){i:Nat}(a:N[i]?=U x)(b:N[j]?=U x):i=j:=by obtain⟨h1,e1⟩:=dM.mp a;obtain⟨h2,L⟩:=dM.mp b;exact(Bf hN).mp<|e1.trans L.symm
theorem Pa {A:d6}{i:Nat}{v:V}{Q:Unit->cU->Prop}(I:Ê X cM Z H s)(hN:X.N.Nodup)(hi:X.N[i]?=U x)(hx:ë X.env.scope x)(r:Ì v u)
  (h:∀s',Ê X cM (Z.set i<|U v) H s'->(∃a,fe a s.heap s'.heap/\(a=X.env.locals\/X.env.cells.lookup x=U a))->Q () s') (hf:uQ X x:=by walk_at "v2"):dg L' A (storeName X.env x u) Q E s:=by
 obtain⟨m,hn,hl⟩:=id I.loc;have J6:(X.env.scope.kind==.class || (X.env.scope.kind==.module&&X.env.locals != X.env.globals))=Ã:=by rw[I.ok.kind];rfl
 have NO:i < Z.length:=by rw[I.len];exact(dM.mp hi).1
 have cne:=I.cne;have tracked:∀{a:cN} {h':c7},(∃o,s.heap.get? a=U o/\H a=G)->fe a s.heap h'->rn X.prog X.w H h':=λ{a h'} ha hs b ob e=>by
  obtain⟨_,_,Ds⟩:=ha;refine(I.hok b ob e).stay (λc w' hc q=>(hs.2 c ?_).trans q) (λ_ q=>q) λ_ _ q=>q;rintro rfl;rcases hc with rfl|hc
  ·rw[Ds]at e;cases e
  ·rw[Ds]at hc;cases hc
 rcases hx with hk|hk
 ·refine wpAny_storeName_local hk hn (λh' Ko hs=>?_) J6;obtain⟨oL,_,_,Cz,_⟩:=id hn;refine h _ ⟨I.ok,I.os,I.bare,⟨λb o e n hb hx=>?_,λb o e n hb hx=>?_,I.base.free,λb o e hx=>?_,I.base.tups,I.base.frzs,I.base.tbls⟩,⟨_,Ko,λj y v' e1 L e3=>?_⟩,λy c e=>?_,I.free,I.freeC,λp hp=>?_,tracked ⟨oL,Cz,I.free⟩ hs,by simpa using I.len⟩ ⟨_,hs,.inl rfl⟩
  ·exact(hs.2 b<|dB<|dF (cW e) I.ok.above).trans<|I.base.keep b o e n hb hx
  ·obtain⟨sl,e1⟩:=I.base.slot b o e n hb hx;exact⟨sl,(hs.2 b<|dB<|dF (cW e) I.ok.above).trans e1⟩
  ·obtain⟨o',e1⟩:=I.base.there b o e hx;exact⟨o',(hs.2 b<|dB<|dF (cW e) I.ok.above).trans e1⟩
  ·by_cases hj:j=i
   ·subst hj;rw[hi]at e1;cases e1;rw[f6 NO]at L;cases L;exact⟨u,r,.inl ⟨hk,by simp⟩⟩
   ·rw[jT<|Ne.symm hj]at L;obtain⟨u',r',q⟩:=hl j y v' e1 L e3;refine⟨u',r',?_⟩;rcases q with⟨k,e⟩|⟨k,c,e,z⟩
    ·refine .inl ⟨k,?_⟩;have:y≠x:=λe=>hj<|PX hN e1<|e▸hi;simp[this,e]
    ·exact .inr ⟨k,c,e,z.sameBut hs<|cne y c e⟩
  ·obtain⟨w',z⟩:=I.cell y c e;exact⟨w',z.sameBut hs<|cne y c e⟩
  ·obtain⟨e,n,ne,nf,d⟩:=I.pin p hp;exact⟨(hs.2 p.1 ne).trans e,n,ne,nf,d⟩
 ·have Fd:X.fn x=Â:=by
   rcases hf with z|z
   ·exact z
   ·rw[z]at hk;cases hk
  obtain⟨c,hc⟩:=I.ok.has x<|.inl hk;obtain⟨w',z⟩:=I.cell x c hc;refine wpAny_storeName_cell I.ok.kind hk hc z<|λh' Dr hs=>?_;obtain⟨oc,NR,Ks⟩:=id z;refine h { s with heap:=h' } ⟨I.ok,I.os,I.bare,⟨λb o e n hb hx=>?_,λb o e n hb hx=>?_,I.base.free,λb o e hx=>?_,I.base.tups,I.base.frzs,I.base.tbls⟩,⟨m,hn.sameBut hs<|Ne.symm<|cne x c hc,λj y v' e1 L e3=>?_⟩,λy c' e=>?_,I.free,I.freeC,λp hp=>?_,tracked ⟨oc,NR,I.freeC x c hc⟩ hs,by simpa using I.len⟩ ⟨c,hs,.inr hc⟩
  ·exact(hs.2 b<|dB<|dF (cW e)<|I.ok.cab x c Fd hc).trans<|I.base.keep b o e n hb hx
  ·obtain⟨sl,e1⟩:=I.base.slot b o e n hb hx;exact⟨sl,(hs.2 b<|dB<|dF (cW e)<|I.ok.cab x c Fd hc).trans e1⟩
  ·obtain⟨o',e1⟩:=I.base.there b o e hx;exact⟨o',(hs.2 b<|dB<|dF (cW e)<|I.ok.cab x c Fd hc).trans e1⟩
  ·by_cases hj:j=i
   ·subst hj;rw[hi]at e1;cases e1;rw[f6 NO]at L;cases L;exact⟨u,r,.inr ⟨.inl hk,c,hc,Dr⟩⟩
   ·rw[jT<|Ne.symm hj]at L;obtain⟨u',r',q⟩:=hl j y v' e1 L e3;refine⟨u',r',?_⟩;rcases q with q|⟨k,c',e,z'⟩
    ·exact .inl q
    ·refine .inr ⟨k,c',e,z'.sameBut hs ?_⟩;rintro rfl;exact hj<|PX hN e1<|I.ok.inj _ _ _ e hc▸hi
  ·by_cases NI:c'=c
   ·subst NI;exact⟨_,Dr⟩
   ·obtain⟨w2,z2⟩:=I.cell y c' e;exact⟨w2,z2.sameBut hs NI⟩
  ·obtain⟨e,n,ne,nf,d⟩:=I.pin p hp;refine⟨(hs.2 p.1 ?_).trans e,n,ne,nf,d⟩;intro q;rw[q,NR]at e;have q':oc=p.2:=Option.some.inj e;exact d w' (by rw[←q'];exact Ks)
theorem LZ {A:d6}{i:Nat}{v:V}{Q:Unit->cU->Prop}(I:Ê X cM Z H s)(hN:X.N.Nodup)(hi:X.N[i]?=U x)(hx:ë X.env.scope x)(r:Ì v u)
  (h:∀s',Ê X cM (Z.set i<|U v) H s'->Q () s') (hf:uQ X x:=by walk_at "v2"):dg L' A (storeName X.env x u) Q E s :=
 Pa I hN hi hx r (λs' I' _=>h s' I') hf
theorem Ê.call' (I:Ê X cM Z H s)(ho:s'.os=s.os)(u:Un (Br X.stack) ch H H' s.heap s'.heap)(hok:rn X.prog X.w H' s'.heap)(hg:AllBare s'.gens)
  (tO:∀b∈ch,(b∈X.ex\/X.s₀.heap.objs.size<=b)/\b≠X.env.locals/\(∀x c,X.env.cells.lookup x=U c->c≠b)/\∀p∈X.pn++cM,p.1≠b):Ê X cM Z H' s':=by
 obtain⟨h',g',d',t',o'⟩:=s';have e:o'=s.os:=ho;subst e;exact I.call (g':=g') (t':=t') (d':=d') u hok hg tO
end
abbrev XK:=cJ->Option cN->Hp->Prop
noncomputable abbrev St:=List<|Option V
abbrev VK:=V->Hp->Prop
abbrev TE:=St->Hp->VK->Prop
abbrev TT:=St->Hp->(Bool->Hp->Prop)->Prop
abbrev TA:=St->Hp->(List V->Hp->Prop)->Prop
structure sx where
 nx:St->Hp->Prop
 rt:VK
 bk:St->Hp->Prop:=λ_ _=>False
 ct:St->Hp->Prop:=λ_ _=>False
abbrev TS:=sx->St->Hp->Prop
def EP (X:Cx)(cM:List<|cN×gz)(Z:St)(Q:VK)(u:cJ)(s':cU):Prop:=∃v H',Ê X cM Z H' s'/\Ì v u/\Q v H'
def TP (X:Cx)(cM:List<|cN×gz)(Z:St)(Q:Bool->Hp->Prop)(b:Bool)(s':cU):Prop:=∃H',Ê X cM Z H' s'/\Q b H'
def AP (X:Cx)(cM:List<|cN×gz)(Z:St)(Q:List V->Hp->Prop)(us:List cJ)(s':cU):Prop:=∃vs H',Ê X cM Z H' s'/\ez vs us/\Q vs H'
def SP (X:Cx)(cM:List<|cN×gz)(D:sx)(f:Flow)(s':cU):Prop :=
 match f with
 |.next=>∃σ' H',Ê X cM σ' H' s'/\D.nx σ' H'
 |.brk=>∃σ' H',Ê X cM σ' H' s'/\D.bk σ' H'
 |.cont=>∃σ' H',Ê X cM σ' H' s'/\D.ct σ' H'
 |.ret u=>∃v σ' H',Ê X cM σ' H' s'/\Ì v u/\D.rt v H'
def PE (X:Cx)(e:Expr)(t:TE):Prop :=
 ∀(cM:List<|cN×gz) (s:cU) (Z:St) (H:Hp) (Q:VK),Ê X cM Z H s->t Z H Q->dg (dz X.prog X.w) X.A (eW e X.env) (EP X cM Z Q) X.xe s
def PT (X:Cx)(e:Expr)(t:TT):Prop :=
 ∀(cM:List<|cN×gz) (s:cU) (Z:St) (H:Hp) (Q:Bool->Hp->Prop),Ê X cM Z H s->t Z H Q->dg (dz X.prog X.w) X.A (yD e X.env<|eW e X.env) (TP X cM Z Q) X.xe s
def PW (X:Cx)(e:Expr)(t:TT):Prop :=
 ∀(whole:uP cJ) (cM:List<|cN×gz) (s:cU) (Z:St) (H:Hp) (Q:Bool->Hp->Prop),Ê X cM Z H s->t Z H Q->dg (dz X.prog X.w) X.A (yD e X.env whole) (TP X cM Z Q) X.xe s
variable {e:Expr}
theorem PW.pt {t:TT}(h:PW X e t):PT X e t:=h _
def PA (X:Cx)(es:List Expr)(t:TA):Prop :=
 ∀(pos:mR) (cM:List<|cN×gz) (s:cU) (Z:St) (H:Hp) (Q:List V->Hp->Prop),Ê X cM Z H s->t Z H Q->dg (dz X.prog X.w) X.A (spliced<|i8 pos<|dJ es X.env) (AP X cM Z Q) X.xe s
def PS (X:Cx)(st:eo)(t:TS):Prop :=
 ∀(cM:List<|cN×gz) (s:cU) (Z:St) (H:Hp) (D:sx),Ê X cM Z H s->t D Z H->dg (dz X.prog X.w) X.A (exec st X.env) (SP X cM D) X.xe s
def yU (X:Cx)(st:List eo)(t:TS):Prop :=
 ∀(cM:List<|cN×gz) (s:cU) (Z:St) (H:Hp) (D:sx),Ê X cM Z H s->t D Z H->dg (dz X.prog X.w) X.A (execs st X.env) (SP X cM D) X.xe s
theorem gc {t:uP α}{Q Q':α->cU->Prop}{A:d6}(h:dg L' A t Q E s)(hQ:∀a s,Q a s->Q' a s):dg L' A t Q' E s:=gb h hQ λ_ _ x=>x
variable {Q:cJ->cU->Prop}{c:Expr}{op:Aw}{pos:mR}{ta tb:TE}{Z:St}
section
theorem bin {a b:Expr}(ha:PE X a ta)(hb:PE X b tb){R:V->V->Hp->Prop}(I:Ê X cM Z H s)(h:ta Z H λx H1=>tb Z H1 λy H2=>R x y H2)
 {Q:α->cU->Prop} {f:cJ->cJ->uP α}
    (hf:∀v u s2 x y H2,Ê X cM Z H2 s2->Ì x v->Ì y u->R x y H2->dg (dz X.prog X.w) X.A (f v u) Q X.xe s2) :
    dg (dz X.prog X.w) X.A (eW a X.env) (λv s₁=>dg (dz X.prog X.w) X.A (eW b X.env) (λu s₂=>dg (dz X.prog X.w) X.A (f v u) Q X.xe s₂) X.xe s₁) X.xe s:=by
  refine gc (ha cM s Z H _ I h) λv s1 gR=>?_;obtain⟨x,H1,I1,r1,q1⟩:=gR;refine gc (hb cM s1 Z H1 _ I1 q1) λu s2 gR=>?_;obtain⟨y,H2,I2,r2,q2⟩:=gR;exact hf v u s2 x y H2 I2 r1 r2 q2
def LF (i:Nat):TE:=λZ H Q=>∃v,Z[i]?=U (U v)/\Q v H
def tC (v:V):TE:=λ_ H Q=>Q v H
theorem xm {i:Nat}(hN:X.N[i]?=U x)(hv:rZ X.env.scope x)(hd:kW x:=by decide)(kT:sU x:=by decide):PE X (.Name x pos) (LF i):=by
 intro cM s Z H Q I h;obtain⟨v,e,h⟩:=h;obtain⟨m,hn,hl⟩:=I.loc;obtain⟨u,r,l⟩:=hl i x v hN e hv;have fin:EP X cM Z Q u s:=⟨v,H,I,r,h⟩;rcases l with⟨hk,hm⟩|⟨hk,c,hc,Ah⟩
 ·exact Dg (wpAny_loadName_local I.ok.kind hk hn hm fin) hd
 ·rcases hk with hk|hk
  ·exact Dg (wpAny_loadName_cell I.ok.kind hk hc Ah fin) hd
  ·exact Dg (wpAny_loadName_free I.ok.kind hk hc Ah fin kT) hd
theorem ύ {i j pos}:PE X (.Constant (.int i) j pos) (tC<|.int i):=λ_ _ _ H _ I h=>wpAny_Constant_int ⟨.int i,H,I.tok _,⟨_,rfl⟩,h⟩
theorem ļ {b j pos}:PE X (.Constant (.bool b) j pos) (tC<|.bl b):=λ_ _ _ H _ I h=>Constant_bool ⟨.bl b,H,I,rfl,h⟩
theorem ό {j pos}:PE X (.Constant .none j pos) (tC .non):=λ_ _ _ H _ I h=>Constant_none ⟨.non,H,I,rfl,h⟩
theorem ϋ {x j pos}:PE X (.Constant (.str x) j pos) (tC<|.str x):=λ_ _ _ H _ I h=>Calls.Constant_str ⟨.str x,H,I.tok _,⟨_,rfl⟩,h⟩
def Gl (X:Cx)(x:Str):Prop:=X.env.kindOf x=U .globalImplicit
theorem vf (I:Ê X cM Z H s)(hg:Gl X x)(hm:X.mg x=U u)(h:Q u s)
  (hd:kW x:=by decide):dg (dz X.prog X.w) X.A (eW (.Name x pos) X.env) Q E s :=
 Calls.Name_function_global I.ok.kind hg (Calls.loadGlobal_global (by rw[I.ok.glob];exact I.mod.glob.keeps I.bk) hm h) hd
theorem vd (I:Ê X cM Z H s)(hg:Gl X x)(hm:X.mg x=G)(hv:eP x=U u)(h:Q u s)
  (hn:x≠"__name__":=by decide) (hd:kW x:=by decide):dg (dz X.prog X.w) X.A (eW (.Name x pos) X.env) Q E s:=by
 obtain⟨mb,h1,h2⟩:=I.mod.blt;exact Calls.Name_function_global I.ok.kind hg (Calls.loadGlobal_builtin (by rw[I.ok.glob];exact I.mod.glob.keeps I.bk) hm (by rw[I.ok.blt];exact h1.keeps I.bk) ((h2 x hn).trans hv) h) hd
theorem Mw {v:V}(hg:Gl X x)(hm:X.mg x=U u)(r:Ì v u)(hd:kW x:=by decide):PE X (.Name x pos) (tC v) :=
 λ_ _ _ H _ I h=>vf I hg hm ⟨v,H,I,r,h⟩ hd
theorem zs6 {v:V}(hg:Gl X x)(hm:X.mg x=G)(hv:eP x=U u)(r:Ì v u)(hn:x≠"__name__":=by decide)(hd:kW x:=by decide):PE X (.Name x pos) (tC v) :=
 λ_ _ _ H _ I h=>vd I hg hm hv ⟨v,H,I,r,h⟩ hn hd
variable {a b:Expr}
def PC (X:Cx)(op:Aw)(a b:Expr)(t:TE):Prop :=
 ∀(cM:List<|cN×gz) (s:cU) (Z:St) (H:Hp) (Q:VK),Ê X cM Z H s->t Z H Q ->
  dg (dz X.prog X.w) X.A (eW a X.env) (λv s₁=>dg (dz X.prog X.w) X.A (eW b X.env) (λu s₂=>dg (dz X.prog X.w) X.A (eX op v u) (EP X cM Z Q) X.xe s₂) X.xe s₁) X.xe s
def tB (t:TE):TT:=λZ H Q=>t Z H λx H1=>∃c,x=.bl c/\Q c H1
theorem MS {t:TE}(h:PC X op a b t)(h1:f9 op b=Ã:=by first|exact GU _ (by decide) (by decide)|rfl):PT X (.Compare a [op] [b] pos) (tB t):=by intro cM s Z H Q I hw;refine wpAny_isTrue_Compare1 (gc (h cM s Z H _ I hw) λv s1 h1=>gc h1 λu s2 h2=>gc h2 λc s3 hq=>?_) h1;obtain⟨x,H1,I1,r1,q1⟩:=hq;obtain⟨d,rfl,q⟩:=q1;cases r1;exact iO ⟨H1,I1,q⟩
theorem Rl {t:TE}(h:PE X e t)(he:∀whole,yD e X.env whole=(do let v ← whole;kN e.pos;ir [v] (truthy v)):=by intro _;rfl):PT X e (tB t):=by intro cM s Z H Q I hw;refine isTrue_plain (gc (h cM s Z H _ I hw) λv s1 hq=>?_)<|he _;obtain⟨x,H1,I1,r1,q1⟩:=hq;obtain⟨d,rfl,q⟩:=q1;cases r1;exact iO ⟨H1,I1,q⟩
variable {tA Iy:TT}{Î:List Expr}
def Lq (t u:TT):TT:=λZ H Q=>t Z H λc H1=>if c=Â then u Z H1 Q else Q Ã H1
def U5 (t u:TT):TT:=λZ H Q=>t Z H λc H1=>if c=Â then Q Â H1 else u Z H1 Q
def Lz (t:TT):TT:=λZ H Q=>t Z H λc H1=>Q (!c) H1
theorem zs7 (ha:PT X a tA):PW X (.BoolOp .And [a] pos) tA:=by
 intro wh cM s Z H Q I h;refine isTrue_and<|gc (ha cM s Z H Q I h) λc s1 e=>?_;cases c with
 |true=>exact isTrue_and_nil e
 |false=>exact e
theorem Rm (ha:PT X a tA):PW X (.BoolOp .Or [a] pos) tA:=by
 intro wh cM s Z H Q I h;refine isTrue_or<|gc (ha cM s Z H Q I h) λc s1 e=>?_;cases c with
 |false=>exact isTrue_or_nil e
 |true=>exact e
theorem ϊ (ha:PT X a tA)(hb:PW X (.BoolOp .And (b::Î) pos) Iy):PW X (.BoolOp .And (a::b::Î) pos) (Lq tA Iy):=by
 intro wh cM s Z H Q I h;refine isTrue_and<|gc (ha cM s Z H _ I h) λc s1 gR=>?_;obtain⟨H1,I1,q1⟩:=gR;cases c with
 |true=>exact hb wh cM s1 Z H1 Q I1 q1
 |false=>exact⟨H1,I1,q1⟩
theorem RZ (ha:PT X a tA)(hb:PW X (.BoolOp .Or (b::Î) pos) Iy):PW X (.BoolOp .Or (a::b::Î) pos) (U5 tA Iy):=by
 intro wh cM s Z H Q I h;refine isTrue_or<|gc (ha cM s Z H _ I h) λc s1 gR=>?_;obtain⟨H1,I1,q1⟩:=gR;cases c with
 |true=>exact⟨H1,I1,q1⟩
 |false=>exact hb wh cM s1 Z H1 Q I1 q1
theorem Rn (ha:PT X a tA):PT X (.UnaryOp .Not a pos) (Lz tA):=by intro cM s Z H Q I h;exact isTrue_not<|ha cM s Z H (λc H1=>Q (!c) H1) I h
def Hc (ta tb:TE):TE:=λZ H Q=>ta Z H λx H1=>∃c,x=.bl c/\if c=Â then tb Z H1 Q else Q (.bl Ã) H1
def LA (ta tb:TE):TE:=λZ H Q=>ta Z H λx H1=>∃c,x=.bl c/\if c=Â then Q (.bl Â) H1 else tb Z H1 Q
theorem Ω {op}{t:TE}(h:PE X a t):PE X (.BoolOp op [a] pos) t:=λcM s Z H Q I hw=>BoolOp_one<|h cM s Z H Q I hw
theorem Ψ (ha:PE X a ta)(hb:PE X (.BoolOp .And (b::Î) pos) tb):PE X (.BoolOp .And (a::b::Î) pos) (Hc ta tb):=by
 intro cM s Z H Q I h;refine BoolOp_and<|gc (ha cM s Z H _ I h) λv s1 gR=>?_;obtain⟨x,H1,I1,r1,q1⟩:=gR;obtain⟨c,rfl,q1⟩:=q1;cases r1;refine iO ?_;cases c with
 |true=>exact hb cM s1 Z H1 Q I1 q1
 |false=>exact⟨.bl Ã,H1,I1,rfl,q1⟩
theorem Ļ (ha:PE X a ta)(hb:PE X (.BoolOp .Or (b::Î) pos) tb):PE X (.BoolOp .Or (a::b::Î) pos) (LA ta tb):=by
 intro cM s Z H Q I h;refine BoolOp_or<|gc (ha cM s Z H _ I h) λv s1 gR=>?_;obtain⟨x,H1,I1,r1,q1⟩:=gR;obtain⟨c,rfl,q1⟩:=q1;cases r1;refine iO ?_;cases c with
 |false=>exact hb cM s1 Z H1 Q I1 q1
 |true=>exact⟨.bl Â,H1,I1,rfl,q1⟩
def U3 (t:TT)(ta tb:TE):TE:=λZ H Q=>t Z H λc H1=>if c=Â then ta Z H1 Q else tb Z H1 Q
theorem Zb (hc:PT X c tA)(ha:PE X a ta)(hb:PE X b tb):PE X (.IfExp c a b pos) (U3 tA ta tb):=by
 intro cM s Z H Q I h;refine wpAny_IfExp<|gc (hc cM s Z H _ I h) λd s1 gR=>?_;obtain⟨H1,I1,q1⟩:=gR;cases d with
 |true=>exact ha cM s1 Z H1 Q I1 q1
 |false=>exact hb cM s1 Z H1 Q I1 q1
end
def iE (K:cL)(H:Hp)(a:cN)(xs:List V):Prop :=
 Rd H a (.lst xs) \/
  ∃(o:gz) (eE:Array cJ) (n:Nat),K.lookup a=U o/\o.cls=.type "list"/\o.dict=G/\o.data=.seq eE n/\eE.size<=sizeLine/\ez xs eE.toList
def pX (K:cL)(H:Hp)(a:cN)(xs:List V):Prop :=
 Rd H a (.tup xs) \/
  ∃(o:gz) (eE:Array cJ) (n:Nat),K.lookup a=U o/\o.cls=.type "tuple"/\o.data=.seq eE n/\eE.size<=sizeLine/\ez xs eE.toList
noncomputable def JK:cJ->Option V
 |.none=>U .non
 |.bool b=>U<|.bl b
 |.int i _=>U<|.int i
 |.str x _=>U<|.str x
 |.bytes b _=>U<|.byt b
 |.float b _=>U<|.flt b
 |.ref a=>U<|.ref a
 |.type n=>U<|.ty n
 |_=>G
theorem Ì.abs {x:V}(r:Ì x u):JK u=U x:=by
 cases x with
 |non=>cases r;rfl
 |bl _=>cases r;rfl
 |int _=>obtain⟨t,rfl⟩:=r;rfl
 |str _=>obtain⟨t,rfl⟩:=r;rfl
 |byt _=>obtain⟨t,rfl⟩:=r;rfl
 |flt _=>obtain⟨t,rfl⟩:=r;rfl
 |ref _=>cases r;rfl
 |ty _=>cases r;rfl
variable {y:V}
theorem Ì.inj {x:V}(r:Ì x u)(q:Ì y u):x=y:=Option.some.inj<|r.abs.symm.trans q.abs
theorem ez.inj:∀{xs ys:List V} {us:List cJ},ez xs us->ez ys us->xs=ys
 |_,_,_,.nil,.nil=>rfl
 |_,_,_,.cons r t,.cons r' t'=>by rw[r.inj r',ez.inj t t']
variable {ys:List V}
section
variable {a:cN}
theorem iE.of {K:cL}(h:H a=U (.lst xs)):iE K H a xs:=.inl<|.inl h
theorem pX.of {K:cL}(h:H a=U (.tup xs)):pX K H a xs:=.inl<|.inl h
theorem Ê.list (I:Ê X cM Z H s)(h:iE X.K H a xs):∃eE:List cJ,ez xs eE/\PlainL s.heap a eE.toArray/\xs.length<=sizeLine:=by
 rcases h with h|⟨o,eE,n,hk,hc,hd,hs,hz,r⟩
 ·obtain⟨z,eE,n,r,e⟩:=h.ok I.hok;exact⟨eE,r,⟨_,n,e,rfl,rfl,rfl⟩,z⟩
 ·refine⟨eE.toList,r,⟨o,n,I.kIn a o hk,hc,hd,by simpa using hs⟩,?_⟩;have e:=r.length;simp only[dQ]at e;lia
theorem Ê.tuple (I:Ê X cM Z H s)(h:pX X.K H a xs):∃eE:List cJ,ez xs eE/\IsTup s.heap a eE.toArray/\xs.length<=sizeLine:=by
 rcases h with h|⟨o,eE,n,hk,hc,hs,hz,r⟩
 ·obtain⟨z,eE,r,p⟩:=h.ok I.hok;exact⟨eE,r,p,z⟩
 ·refine⟨eE.toList,r,⟨o,I.kIn a o hk,hc,n,by simpa using hs⟩,?_⟩;have e:=r.length;simp only[dQ]at e;lia
theorem Ê.list_inj (I:Ê X cM Z H s)(h:iE X.K H a xs)(h':iE X.K H a ys):xs=ys:=by
 obtain⟨eE,r,⟨o,n,e,_,_,d⟩,_⟩:=I.list h;obtain⟨its',r',⟨o',n',e',_,_,d'⟩,_⟩:=I.list h';rw[e]at e';cases e';rw[d]at d';injection d' with d1 _;have:eE=its':=by simpa using congrArg C5 d1
 subst this;exact r.inj r'
theorem Ê.tuple_inj (I:Ê X cM Z H s)(h:pX X.K H a xs)(h':pX X.K H a ys):xs=ys:=by
 obtain⟨eE,r,⟨o,e,_,n,d⟩,_⟩:=I.tuple h;obtain⟨its',r',⟨o',e',_,n',d'⟩,_⟩:=I.tuple h';rw[e]at e';cases e';rw[d]at d';injection d' with d1 _;have:eE=its':=by simpa using congrArg C5 d1
 subst this;exact r.inj r'
end
noncomputable abbrev Cx.wish (X:Cx)(E:cJ->cU->Prop):Cx:={ X with xe:=E }
abbrev Cx.nox (X:Cx):Cx:=X.wish λ_ _=>False
theorem Cx.Ok.wish (ok:X.Ok)(E:cJ->cU->Prop):(X.wish E).Ok :=
 ⟨ok.mod,ok.kind,ok.glob,ok.blt,ok.above,ok.inj,ok.has,ok.cab,ok.hd,ok.frames,ok.stk,ok.exf,ok.bs,ok.bsz,ok.noex,ok.exfs,ok.funs,ok.frf⟩
theorem Cx.Ok.unwish (ok:(X.wish E).Ok):X.Ok :=
 ⟨ok.mod,ok.kind,ok.glob,ok.blt,ok.above,ok.inj,ok.has,ok.cab,ok.hd,ok.frames,ok.stk,ok.exf,ok.bs,ok.bsz,ok.noex,ok.exfs,ok.funs,ok.frf⟩
theorem Ê.wish (I:Ê X cM Z H s)(E:cJ->cU->Prop):Ê (X.wish E) cM Z H s:=⟨I.ok.wish E,I.os,I.bare,I.base,I.loc,I.cell,I.free,I.freeC,I.pin,I.hok,I.len⟩
theorem Ê.unwish (I:Ê (X.wish E) cM Z H s):Ê X cM Z H s:=⟨I.ok.unwish,I.os,I.bare,I.base,I.loc,I.cell,I.free,I.freeC,I.pin,I.hok,I.len⟩
theorem SP.unwish {D:sx}{f:Flow}(h:SP (X.wish E) cM D f s'):SP X cM D f s':=by
 cases f with
 |next=>obtain⟨σ',H',I,q⟩:=h;exact⟨σ',H',I.unwish,q⟩
 |brk=>obtain⟨σ',H',I,q⟩:=h;exact⟨σ',H',I.unwish,q⟩
 |cont=>obtain⟨σ',H',I,q⟩:=h;exact⟨σ',H',I.unwish,q⟩
 |ret u=>obtain⟨v,σ',H',I,r,q⟩:=h;exact⟨v,σ',H',I.unwish,r,q⟩
theorem yU.nox {st:List eo}{t:TS}(h:yU X.nox st t):yU X st t:=λcM s Z H D I hw=>gb (h cM s Z H D (I.wish _) hw) (λ_ _ q=>q.unwish) λ_ _ z=>False.elim z
variable {te:TE}
section
variable {st:eo}{Î:List eo}{t u:TS}
def Hi:TS:=λD Z H=>D.nx Z H
def LC (t u:TS):TS:=λD Z H=>t { D with nx:=u D } Z H
theorem Mx:yU X [] Hi:=λ_ _ Z H _ I h=>qS ⟨Z,H,I,h⟩
theorem L7 (h1:PS X st t)(h2:yU X Î u):yU X (st::Î) (LC t u):=by
 intro cM s Z H D I h;refine wpAny_execs_cons<|gc (h1 cM s Z H { D with nx:=u D } I h) λf s1 q=>?_;cases f with
 |next=>obtain⟨σ',H',I',q⟩:=q;exact h2 cM s1 σ' H' D I' q
 |ret v=>exact q
 |brk=>exact q
 |cont=>exact q
theorem Hr (h1:PS X st t):yU X [st] t:=by
 intro cM s Z H D I h;refine wpAny_execs_cons<|gc (h1 cM s Z H D I h) λf s1 q=>?_;cases f with
 |next=>exact qS q
 |ret v=>exact q
 |brk=>exact q
 |cont=>exact q
theorem Ê.quiet (I:Ê X cM Z H s):interactive X.env=Ã:=by simp[interactive,I.ok.kind]
def Hf (te:TE):TS:=λD Z H=>te Z H λ_ H1=>D.nx Z H1
theorem IT (he:PE X e te)(hs:gk e G pos.line X.env=pure Ã:=by rfl):PS X (.Expr e pos) (Hf te):=by intro cM s Z H D I h;exact wpAny_Expr_any (gc (he cM s Z H _ I h) λv s1 ⟨x,H1,I1,r1,q1⟩=>⟨Z,H1,I1,q1⟩) I.quiet hs
def LB (te:TE):TS:=λD Z H=>te Z H D.rt
theorem u9 (he:PE X e te):PS X (.Return (U e) pos) (LB te):=by intro cM s Z H D I h;exact wpAny_Return_some<|gc (he cM s Z H _ I h) λv s1 ⟨x,H1,I1,r1,q1⟩=>⟨x,Z,H1,I1,r1,q1⟩
def Lx (c:TT)(t u:TS):TS:=λD Z H=>c Z H λb H1=>if b=Â then t D Z H1 else u D Z H1
theorem Ju {a b:List eo}{tc:TT}(hc:PT X c tc)(ha:yU X a t)(hb:yU X b u):PS X (.If c a b pos) (Lx tc t u):=by
 intro cM s Z H D I h;refine wpAny_If<|gc (hc cM s Z H _ I h) λd s1 gR=>?_;obtain⟨H1,I1,q1⟩:=gR;cases d with
 |true=>exact ha cM s1 Z H1 D I1 q1
 |false=>exact hb cM s1 Z H1 D I1 q1
def ER:TS:=λ_ _ _=>False
theorem Zv:PS X st ER:=λ_ _ _ _ _ _ h=>h.elim
end
abbrev TG:=V->St->Hp->(St->Hp->Prop)->Prop
abbrev Dk:=List V->St->Hp->(St->Hp->Prop)->Prop
def PG (X:Cx)(target:Expr)(t:TG):Prop :=
 ∀(cM:List<|cN×gz) (s:cU) (Z:St) (H:Hp) (v:V) (u:cJ) (Q:St->Hp->Prop),Ê X cM Z H s->Ì v u->t v Z H Q ->
  dg (dz X.prog X.w) X.A (o8 target X.env u) (λ_ s'=>∃σ' H',Ê X cM σ' H' s'/\Q σ' H') X.xe s
def E1 (X:Cx)(ts:List Expr)(t:Dk):Prop :=
 ∀(cM:List<|cN×gz) (s:cU) (Z:St) (H:Hp) (vs:List V) (us:List cJ) (Q:St->Hp->Prop),Ê X cM Z H s->ez vs us->t vs Z H Q ->
  dg (dz X.prog X.w) X.A (assignInOrder ((gx ts X.env).map (·.2)) us) (λ_ s'=>∃σ' H',Ê X cM σ' H' s'/\Q σ' H') X.xe s
abbrev Bo:=V->V->V->Hp->(Hp->Prop)->Prop
def DW (X:Cx)(t:Bo):Prop :=
 ∀(cM:List<|cN×gz) (s:cU) (Z:St) (H:Hp) (o i v:V) (ov iv u:cJ) (Q:Hp->Prop),Ê X cM Z H s->Ì o ov->Ì i iv->Ì v u->t o i v H Q ->
  dg (dz X.prog X.w) X.A (xB ov iv u) (λ_ s'=>∃H',Ê X cM Z H' s'/\Q H') X.xe s
abbrev E4:=V->V->Hp->VK->Prop
def E3 (X:Cx)(op:rX)(t:E4):Prop :=
 ∀(cM:List<|cN×gz) (s:cU) (Z:St) (H:Hp) (x y:V) (v u:cJ) (Q:VK),Ê X cM Z H s->Ì x v->Ì y u->t x y H Q ->
  dg (dz X.prog X.w) X.A (inplaceOp op v u) (EP X cM Z Q) X.xe s
variable {es:List Expr}{g:TG}{o tg:Expr}{pos' qY:mR}
def Ae (i:Nat):TG:=λv Z H Q=>Q (Z.set i<|U v) H
theorem IU {i:Nat}(hN:X.N.Nodup)(hi:X.N[i]?=U x)(hx:ë X.env.scope x)(hf:uQ X x:=by walk_at "v2"):PG X (.Name x pos) (Ae i):=by intro cM s Z H v u Q I r h;exact wpAny_assign_Name<|LZ I hN hi hx r (λs' I'=>⟨_,H,I',h⟩) hf
def JT:Dk:=λvs Z H Q=>vs=[]/\Q Z H
def Gb (t:TG)(u:Dk):Dk:=λvs Z H Q=>∃v r,vs=v::r/\t v Z H λσ' H'=>u r σ' H' Q
theorem Qy:E1 X [] JT:=by intro cM s Z H vs us Q I r h;obtain⟨e,h⟩:=h;subst e;cases r;exact assignInOrder_nil ⟨Z,H,I,h⟩
theorem PY {t:TG}{u:Dk}(h1:PG X e t)(h2:E1 X es u)
  (hs:(gx (e::es) X.env).map (·.2)=o8 e X.env::(gx es X.env).map (·.2):=by rfl):E1 X (e::es) (Gb t u):=by
 intro cM s Z H vs us Q I r h;obtain⟨v,vr,e1,h⟩:=h;subst e1;cases r with
 |cons r rr=>rw[hs];refine assignInOrder_cons<|gc (h1 cM s Z H _ _ _ I r h) λ_ s1 gR=>?_;obtain⟨σ1,H1,I1,q1⟩:=gR;exact h2 cM s1 σ1 H1 _ _ Q I1 rr q1
def JV (K:cL)(n:Nat)(t:Dk):TG:=λv Z H Q=>∃a xs,v=.ref a/\pX K H a xs/\xs.length=n/\t xs Z H Q
theorem Ro {k:Nat}{t:Dk}{n:Nat}(hc:X.calm=Â)(h:E1 X es t)
  (hn:(gx es X.env).length=n:=by rfl) (lE:(gx es X.env).findIdx? (·.1)=G:=by rfl):PG X (.Tuple es k pos) (JV X.K n t):=by
 intro cM s Z H v u Q I r hw;obtain⟨a,xs,e1,hq,hl,hw⟩:=hw;subst e1;cases r;obtain⟨eE,rv,ht,hz⟩:=I.tuple hq;refine assign_Tuple_tuple (I.ok.hd hc) ht (by simp[hn,←hl,rv.length]) lE λh' hx=>?_;have I1:Ê X cM Z H { s with heap:=h' }:=I.kept (t':=s.toks) λb o e=>hx b o (dB<|cW e) e;exact h cM _ Z H xs _ Q I1 (by simpa using rv) hw
def JU (to ti:TE)(t:Bo):TG:=λv Z H Q=>to Z H λo H1=>ti Z H1 λi H2=>t o i v H2 λH3=>Q Z H3
theorem Χ {i:Expr}{to ti:TE}{t:Bo}(ho:PE X o to)(hi:PE X i ti)(hs:DW X t)
  (ha:∀v,o8 (.Subscript o i pos) X.env v=(do
   let ov ← ir [v] (eW o X.env)
   let iv ← ir [v,ov] (eW i X.env)
   kN pos
   ir [v,ov,iv] (xB ov iv v)
   release [v,ov,iv] []):=by intro _;rfl):PG X (.Subscript o i pos) (JU to ti t):=by
 intro cM s Z H v u Q I r h;rw[ha];refine cO<|iR<|gc (ho cM s Z H _ I h) λov s1 gR=>?_;obtain⟨x,H1,I1,r1,q1⟩:=gR;refine cO<|iR<|gc (hi cM s1 Z H1 _ I1 q1) λiv s2 gR=>?_;obtain⟨y,H2,I2,r2,q2⟩:=gR;refine cO<|o9<|cO<|iR<|gc (hs cM s2 Z H2 x y v ov iv u _ I2 r1 r2 r q2) λ_ s3 gR=>?_;obtain⟨H3,I3,q3⟩:=gR;exact wpAny_release ⟨Z,H3,I3,q3⟩
def EJ (te:TE)(g:TG):TS:=λD Z H=>te Z H λx H1=>g x Z H1 D.nx
theorem Φ (he:PE X e te)(hg:PG X tg g)(hs:swapsWithSole [tg] e pos.line X.env=pure Ã:=by rfl)(hw:swappedStores [tg] e X.env=pure G:=by rfl)
  (h1:(gx [tg] X.env).map (·.2)=[o8 tg X.env]:=by rfl):PS X (.Assign [tg] e pos) (EJ te g):=by
 intro cM s Z H D I h;refine wpAny_Assign_stores (gc (he cM s Z H _ I h) λv s1 hq=>?_) hs hw;obtain⟨x,H1,I1,r1,q1⟩:=hq;rw[h1];exact gc (hg cM s1 Z H1 x v _ I1 r1 q1) λ_ s2 q=>q
theorem Jf {i:Nat}(hN:X.N.Nodup)(hi:X.N[i]?=U x)(hx:ë X.env.scope x)(he:PE X e te)(hs:FR X e x pos' pos:=by rfl)(hf:uQ X x:=by walk_at "v2") :
  PS X (.Assign [.Name x pos'] e pos) (EJ te<|Ae i):=by
 intro cM s Z H D I h;refine wpAny_Assign_Name (gc (he cM s Z H _ I h) λv s1 hq=>?_) hs;obtain⟨y,H1,I1,r1,q1⟩:=hq;exact LZ I1 hN hi hx r1 (λs2 I2=>⟨_,H1,I2,q1⟩) hf
def Lr (i:Nat)(te:TE)(ti:E4):TS:=λD Z H=>∃x,Z[i]?=U (U x)/\te Z H λy H1=>ti x y H1 λz H2=>D.nx (Z.set i<|U z) H2
theorem Υ {i:Nat}{op:rX}{ti:E4}(hN:X.N.Nodup)(hi:X.N[i]?=U x)(hx:ë X.env.scope x)(he:PE X e te)(ho:E3 X op ti)(hf:uQ X x:=by walk_at "v2") :
  PS X (.AugAssign (.Name x pos') op e pos) (Lr i te ti):=by
 intro cM s Z H D I h;obtain⟨v,e1,h⟩:=h;obtain⟨m,hn,hl⟩:=I.loc;have Vf:rZ X.env.scope x:=by rcases hx with k|k;exact .inl k;exact .inr<|.inl k
 obtain⟨u,r,l⟩:=hl i x v hi e1 Vf;refine wpAny_AugAssign_Name ?_;have go:dg (dz X.prog X.w) X.A (eW e X.env) (λw s₂=>dg (dz X.prog X.w) X.A (inplaceOp op u w) (λr s₃=>dg (dz X.prog X.w) X.A (storeName X.env x r) (λ_=>SP X cM D .next) X.xe s₃) X.xe s₂) X.xe s:=by refine gc (he cM s Z H _ I h) λw s1 gR=>?_;obtain⟨y,H1,I1,r1,q1⟩:=gR;refine gc (ho cM s1 Z H1 v y u w _ I1 r r1 q1) λz s2 gR=>?_;obtain⟨zv,H2,I2,r2,q2⟩:=gR;exact LZ I2 hN hi hx r2 (λs3 I3=>⟨_,H2,I3,q2⟩) hf
 rcases l with⟨hk,hm⟩|⟨hk,c,hc,Ah⟩
 ·exact wpAny_loadName_local I.ok.kind hk hn hm go
 ·rcases hk with hk|hk
  ·exact wpAny_loadName_cell I.ok.kind hk hc Ah go
  ·rcases hx with k|k
   ·have:X.env.scope.names.lookup x=U .free:=hk;rw[k]at this;cases this
   ·have:X.env.scope.names.lookup x=U .free:=hk;rw[k]at this;cases this
def Hd (to ti te:TE)(C0:V->V->Hp->VK->Prop)(Iz:E4)(C1:Bo):TS:=λD Z H=>to Z H λo H1=>ti Z H1 λi H2=>C0 o i H2 λx H3=>te Z H3 λy H4=>Iz x y H4 λz H5=>C1 o i z H5 λH6=>D.nx Z H6
def FO (X:Cx)(t:V->V->Hp->VK->Prop):Prop :=
 ∀(cM:List<|cN×gz) (s:cU) (Z:St) (H:Hp) (o i:V) (ov iv:cJ) (Q:VK),Ê X cM Z H s->Ì o ov->Ì i iv->t o i H Q ->
  dg (dz X.prog X.w) X.A (su ov iv) (EP X cM Z Q) X.xe s
theorem zs8 {i:Expr}{to ti:TE}{C0:V->V->Hp->VK->Prop}{Iz:E4}{C1:Bo}{op:rX}(ho:PE X o to)(hi:PE X i ti)(hg:FO X C0)(he:PE X e te)(hp:E3 X op Iz)(hs:DW X C1)
  (ha:∀ov iv new,augStore i ov iv new=(do ir [new,ov,iv] (xB ov iv new);release [new,ov,iv] [];pure .next):=by intros;rfl):PS X (.AugAssign (.Subscript o i qY) op e pos) (Hd to ti te C0 Iz C1):=by
 intro cM s Z H D I h;refine wpAny_AugAssign_SubscriptAny (gc (ho cM s Z H _ I h) λov s1 hq=>?_) ha;obtain⟨x1,H1,I1,r1,q1⟩:=hq;refine gc (hi cM s1 Z H1 _ I1 q1) λiv s2 gR=>?_;obtain⟨x2,H2,I2,r2,q2⟩:=gR;refine gc (hg cM s2 Z H2 x1 x2 ov iv _ I2 r1 r2 q2) λold s3 gR=>?_;obtain⟨x3,H3,I3,r3,q3⟩:=gR;refine gc (he cM s3 Z H3 _ I3 q3) λv s4 gR=>?_;obtain⟨x4,H4,I4,r4,q4⟩:=gR;refine gc (hp cM s4 Z H4 x3 x4 old v _ I4 r3 r4 q4) λnew s5 gR=>?_;obtain⟨x5,H5,I5,r5,q5⟩:=gR;exact gc (hs cM s5 Z H5 x1 x2 x5 ov iv new _ I5 r1 r2 r5 q5) λ_ s6 ⟨H6,I6,q6⟩=>⟨Z,H6,I6,q6⟩
def Im (f:Int->Int->Int):E4:=λx y H Q=>∃i j,x=.int i/\y=.int j/\Q (.int<|f i j) H
theorem MT:E3 X .Add (Im λi j=>i+j):=by intro cM s Z H x y v u Q I r1 r2 h;obtain⟨i,j,e1,L,q⟩:=h;subst e1;subst L;obtain⟨t,rfl⟩:=r1;obtain⟨t',rfl⟩:=r2;exact iadd_int ⟨.int _,H,I.tok _,⟨_,rfl⟩,q⟩
theorem Rp:E3 X .Sub (Im λi j=>i-j):=by intro cM s Z H x y v u Q I r1 r2 h;obtain⟨i,j,e1,L,q⟩:=h;subst e1;subst L;obtain⟨t,rfl⟩:=r1;obtain⟨t',rfl⟩:=r2;exact isub_int ⟨.int _,H,I.tok _,⟨_,rfl⟩,q⟩
variable {body:List eo}
def ES (c:TT)(tb:TS):TS:=λD Z H=>∃W:Nat->St->Hp->Prop,(∃m,W m Z H)/\∀m Z H,W m Z H ->
 c Z H λb H1=>if b=Â then∃N:St->Hp->Prop,(∀σ' H',N σ' H'->∃m',m'<m/\W m' σ' H')/\tb { D with nx:=N,ct:=N,bk:=D.nx } Z H1 else D.nx Z H1
theorem Zw {tc:TT}{tb:TS}(hp:lC (dz X.prog X.w) X.A X.env X.xe)(hc:PT X c tc)(hb:yU X body tb):PS X (.While c body [] pos) (ES tc tb):=by
 intro cM s Z H D I h;obtain⟨W,⟨m0,w0⟩,zU⟩:=h;refine wpAny_While<|codeAny_whileLoop (λn s'=>∃σ' H',Ê X cM σ' H' s'/\W n σ' H') ?_ m0 ⟨Z,H,I,w0⟩;rintro n s1 ⟨σ1,H1,I1,w1⟩;refine jS hp<|gc (hc cM s1 σ1 H1 _ I1<|zU n σ1 H1 w1) λb s2 gR=>?_;obtain⟨H2,I2,q2⟩:=gR;cases b with
 |true=>
  obtain⟨N,hN,q2⟩:=q2;rw[if_pos rfl];refine jS hp<|gc (hb cM s2 σ1 H2 _ I2 q2) λf s3 q3=>?_;cases f with
  |next=>obtain⟨σ3,H3,I3,n3⟩:=q3;obtain⟨m',hm,w3⟩:=hN σ3 H3 n3;exact⟨m',hm,σ3,H3,I3,w3⟩
  |cont=>obtain⟨σ3,H3,I3,n3⟩:=q3;obtain⟨m',hm,w3⟩:=hN σ3 H3 n3;exact⟨m',hm,σ3,H3,I3,w3⟩
  |brk=>exact q3
  |ret v=>exact q3
 |false=>rw[if_neg cZ];exact qS ⟨σ1,H2,I2,q2⟩
structure It where
 go:Nat->Hp->Prop
 yld:Nat->Hp->V->Hp->Prop
 stop:Nat->Hp->Prop
def tG (X:Cx)(cM:List<|cN×gz)(H:Hp)(b:cN):Prop :=
 H b=G/\b≠X.env.locals/\b∉X.fs/\(b∈X.ex\/X.s₀.heap.objs.size<=b)/\(∀x c,X.env.cells.lookup x=U c->c≠b)/\∀p∈X.pn++cM,p.1≠b
theorem Ê.fpOk (I:Ê X cM Z H s)(hb:s.heap.objs.size<=b)(hn:H' b=G):tG X cM H' b:=by
 refine⟨hn,kc<|dF I.lt hb,I.nofs hb,.inr<|eQ I.sz hb,λx c e z=>?_,λp hp z=>?_⟩
 ·obtain⟨v,q⟩:=I.cell x c e;exact absurd (dF q.lt<|by rw[z];exact hb)<|iF _
 ·exact absurd (dF (cW (I.pin p hp).1)<|by rw[z];exact hb)<|iF _
structure Dl (P:eL)(w:d8)(K:cL)(tg:Expr)(U':It)(fp:List cN)(it:cN)(tn:Nat->c7->Prop)(Cs:Cx->Prop):Prop where
 mem:it∈fp
 obj:∀i h,tn i h->∀b∈fp,∃o,h.get? b=U o/\∀v,o.data≠.cell v
 keep:∀i h h',tn i h->(∀b∈fp,∀o,h.get? b=U o->h'.get? b=U o)->tn i h'
 item:∀(X:Cx),X.prog=P->X.w=w->X.K=K->Cs X->∀(i:Nat) (cM:List<|cN×gz) (s:cU) (Z:St) (H:Hp) (E:cJ->cU->Prop),Ê X cM Z H s->(∀b∈fp,tG X cM H b)->tn i s.heap->U'.go i H ->
  dg (dz P w) X.A (pyNext<|.ref it) (λr s1=>∃u,r=U u /\
   dg (dz P w) X.A (mY tg (.ref it) u) (λ_ s2=>∃x H',Ê X cM Z H' s2/\Ì x u/\U'.yld i H x H'/\tn (i+1) s2.heap/\∀b∈fp,H' b=G) E s1) E s
 done:∀(X:Cx),X.prog=P->X.w=w->X.K=K->Cs X->∀(i:Nat) (cM:List<|cN×gz) (s:cU) (Z:St) (H:Hp) (E:cJ->cU->Prop),Ê X cM Z H s->(∀b∈fp,tG X cM H b)->tn i s.heap->U'.stop i H ->
  dg (dz P w) X.A (pyNext<|.ref it) (λr s1=>r=G/\Ê X cM Z H s1) E s
 self:∀(A:d6) (i:Nat) (s:cU) (Q:cJ->cU->Prop) (E:cJ->cU->Prop),tn i s.heap->Q (.ref it) s->dg (dz P w) A (pyIter<|.ref it) Q E s
abbrev ô (P:eL)(w:d8)(K:cL)(tg:Expr)(U':It)(fp:List cN)(it:cN)(tn:Nat->c7->Prop):Prop:=Dl P w K tg U' fp it tn λX=>X.calm=Â
abbrev TI:=St->Hp->(It->Hp->Prop)->Prop
def ú (X:Cx)(c:Prop)(tg:Expr)(U':It)(fp:List cN)(it:cN)(tn:Nat->c7->Prop):Prop:=∃Cs,Dl X.prog X.w X.K tg U' fp it tn Cs/\(c->∀Y':Cx,Y'.A=X.A->Y'.calm=X.calm->Cs Y')
variable {fp:List cN}
theorem ô.ok {U':It}{it:cN}{tn:Nat->c7->Prop}(T:ô X.prog X.w X.K tg U' fp it tn):ú X (X.calm=Â) tg U' fp it tn:=⟨_,T,λhc _ _ e=>e.trans hc⟩
def FP (X:Cx)(c:Prop)(cM:List<|cN×gz)(Z:St)(tg:Expr)(R:It->Hp->Prop)(KW:cJ)(s2:cU):Prop :=
 ∃(it:cN) (fp:List cN) (tn:Nat->c7->Prop) (U':It) (H':Hp),KW=.ref it/\Ê X cM Z H' s2/\ú X c tg U' fp it tn/\tn 0 s2.heap/\(∀b∈fp,tG X cM H' b)/\R U' H'
abbrev Sy (X:Cx):=FP X<|X.calm=Â
def FQ (X:Cx)(c:Prop)(tg iter:Expr)(wi:TI):Prop :=
 ∀(cM:List<|cN×gz) (s:cU) (Z:St) (H:Hp) (R:It->Hp->Prop),Ê X cM Z H s->wi Z H R ->
  dg (dz X.prog X.w) X.A (eW iter X.env) (λv s1=>dg (dz X.prog X.w) X.A (pyIter v) (FP X c cM Z tg R) X.xe s1) X.xe s
abbrev PI (X:Cx):=FQ X<|X.calm=Â
theorem M9 {A:d6}{it:cN}{o:gz}{n:String}{vs:Array cJ}{Q:Unit->cU->Prop}(ho:s.heap.get? it=U o)(hc:o.cls=.type n)(hd:o.data=.fields vs)
    (hn:["enumerate","zip","dict_itemiterator","dict_reverseitemiterator","odict_iterator","itertools.zip_longest","itertools.pairwise"].contains n=Ã) (hQ:Q () s):dg L' A (mY tg (.ref it) u) Q E s:=by
  unfold mY;cases tg<;>first
    |exact dw hQ
    |(cases u<;>first
        |exact dw hQ
        |(refine cO (wpAny_load ho ?_)
          rw[hc,hd];show dg L' A (if(["enumerate","zip","dict_itemiterator","dict_reverseitemiterator","odict_iterator","itertools.zip_longest","itertools.pairwise"].contains n&&vs[0]?==U (rawInt _))=Â then _ else _) Q E s;rw[if_neg<|by intro h;rw[hn,Bool.false_and]at h;cases h];exact dw hQ))
def JE (K:cL)(a:cN):It :=
 ⟨λi H=>∃xs x,iE K H a xs/\xs[i]?=U x,λi H x H'=>H'=H/\∀xs,iE K H a xs->xs[i]?=U x,λi H=>∃xs,iE K H a xs/\xs.length<=i⟩
def FI (lo:Int)(n:Nat):It:=⟨λi _=>i<n,λi H x H'=>H'=H/\x=.int (lo+i),λi _=>n<=i⟩
theorem YC {w:d8}{K:cL}(a it:cN):ô P w K tg (JE K a) [it] it (λi h=>h.IsListIter it a i) where
 mem:=by simp
 obj:=λi h st b hb=>by
  have e:b=it:=by simpa using hb
  subst e;obtain⟨o,e,c,d⟩:=st;exact⟨o,e,λv z=>by rw[d]at z;cases z⟩
 keep:=λi h h' st k=>st.at λo e=>k it (by simp) o e
 item:=by intro X hP hw hK hc i cM s Z H E I hf st hg;subst hP hw hK;obtain⟨xs,x,hq,hx⟩:=hg;obtain⟨eE,rv,p,hz⟩:=I.list hq;obtain⟨u,hu,ru⟩:=rv.get hx;obtain⟨f0,f1,f2,f3,f4,f5⟩:=hf it (by simp);refine wpAny_pyNext_list_item st p.isList (x:=u) (by simpa using hu) λh' wD sb=>?_;have I1:Ê X cM Z H { s with heap:=h' }:=I.turned (t':=s.toks) (λb o hb e=>(sb.2 b hb).trans e) f0 f1 f3 f4 f5;obtain⟨o,e,c,d⟩:=id wD;exact⟨u,rfl,M9 (s:={ s with heap:=h' }) e c d (by decide) ⟨x,H,I1,ru,⟨rfl,λys hy=>by rw[I.list_inj hy hq];exact hx⟩,wD,λb hb=>(hf b hb).1⟩⟩
 done:=by intro X hP hw hK hc i cM s Z H E I hf st hg;subst hP hw hK;obtain⟨xs,hq,hx⟩:=hg;obtain⟨eE,rv,p,hz⟩:=I.list hq;obtain⟨f0,f1,f2,f3,f4,f5⟩:=hf it (by simp);have hl:=rv.length;exact wpAny_pyNext_list_end (I.ok.hd hc) st p.isList (by simp;lia) λh' eb=>⟨rfl,I.turned (t':=s.toks) (λb o hb e=>eb b o hb e) f0 f1 f3 f4 f5⟩
 self:=λ_ _ _ _ _ st h=>wpAny_pyIter_listiter st h
theorem X2 {w:d8}{K:cL}(it:cN)(lo:Int)(n:Nat):ô P w K tg (FI lo n) [it] it (λi h=>IsRangeIter h it (lo+(i:Nat)*1) ((n:Int)-(i:Nat)) 1) where
 mem:=by simp
 obj:=λi h st b hb=>by
  have e:b=it:=by simpa using hb
  subst e;exact⟨_,st,λv z=>by have z':rc.fields _=rc.cell v:=z;cases z'⟩
 keep:=λi h h' st k=>k it (by simp) _ st
 item:=by intro X hP hw hK hc i cM s Z H E I hf st hg;subst hP hw hK;obtain⟨f0,f1,f2,f3,f4,f5⟩:=hf it (by simp);have W:=Walks.range (prog:=X.prog) (w:=X.w) (I.ok.hd hc) it lo 1 n;refine W.item i s _ _ hg st λv h' tk hv wD kk=>?_;obtain⟨t,rfl⟩:=hv;have I1:Ê X cM Z H { s with heap:=h',toks:=tk }:=I.turned (λb o hb e=>kk b o (by simpa using hb) e) f0 f1 f3 f4 f5;refine⟨_,rfl,M9 (s:={ s with heap:=h',toks:=tk }) (n:="range_iterator") wD rfl rfl (by decide) ⟨.int<|lo+i,H,I1,⟨t,?_⟩,⟨rfl,rfl⟩,wD,λb hb=>(hf b hb).1⟩⟩;rw[Int.mul_one]
 done:=by intro X hP hw hK hc i cM s Z H E I hf st hg;subst hP hw hK;obtain⟨f0,f1,f2,f3,f4,f5⟩:=hf it (by simp);exact wpAny_pyNext_range_end (I.ok.hd hc) st (by have:n<=i:=hg;lia) λh' eb=>⟨rfl,I.turned (t':=s.toks) (λb o hb e=>eb b o hb e) f0 f1 f3 f4 f5⟩
 self:=λ_ _ _ _ _ st h=>wpAny_pyIter_rangeiter st h
variable {iter:Expr}{p:mR}{wi:TI}
def Gx (K:cL)(tl:TE):TI:=λZ H R=>tl Z H λx H1=>∃a,x=.ref a/\(∃xs,iE K H1 a xs)/\R (JE K a) H1
theorem IV {l:Expr}{tl:TE}(hl:PE X l tl):PI X tg l (Gx X.K tl):=by
 intro cM s Z H R I h;refine gc (hl cM s Z H _ I h) λv s1 gR=>?_;obtain⟨x,H1,I1,r1,q1⟩:=gR;obtain⟨a,e,⟨xs,hq⟩,q⟩:=q1;subst e;cases r1;obtain⟨eE,rv,p,hz⟩:=I1.list hq;refine uK p.isList ?_;refine⟨s1.heap.objs.size,[s1.heap.objs.size],_,_,H1,rfl,I1.kept (t':=s1.toks) λb o e=>cS _ e,(YC a _).ok,⟨_,dq _ rfl,rfl,rfl⟩,λb hb=>?_,q⟩;have e:b=s1.heap.objs.size:=by simpa using hb
 subst e;exact I1.fpOk (di _)<|I1.hok.fresh<|di _
theorem PN {R:It->Hp->Prop}{lo hi:Int}{t u v:Tok}{tk:Nat}(I:Ê X cM Z H s)(h1:-(2 ^ 62)<=lo)(h2:lo<2 ^ 62)(h3:-(2 ^ 62)<=hi)(h4:hi<2 ^ 62)
    (q:R (FI lo (hi-lo).toNat) H):dg (dz X.prog X.w) X.A (pyIter<|.ref s.heap.objs.size) (Sy X cM Z tg R) E { s with heap:=s.heap.push { cls:=.type "range",data:=.fields #[.int lo t,.int hi u,.int 1 v] },toks:=tk }:=by
  refine wpAny_pyIter_range (IsRange.new ..) (small_one h1 h2 h3 h4) ?_;have I1:Ê X cM Z H { s with heap:=s.heap.push { cls:=.type "range",data:=.fields #[.int lo t,.int hi u,.int 1 v] },toks:=tk }:=I.kept λb o e=>cS _ e;refine⟨(s.heap.push { cls:=.type "range",data:=.fields #[.int lo t,.int hi u,.int 1 v] }).objs.size,[(s.heap.push { cls:=.type "range",data:=.fields #[.int lo t,.int hi u,.int 1 v] }).objs.size],_,_,H,rfl,
    I1.kept (t':=tk) λb o e=>cS _ e,(X2 _ lo (hi-lo).toNat).ok,?_,λb hb=>?_,q⟩
  · have e1:lo+((0:Nat):Int)*1=lo:=by simp
    have L:(((hi-lo).toNat:Nat):Int)-((0:Nat):Int)=Builtin.Range.rangeSize lo hi 1:=by rw[rangeSize_one];split<;>lia
    show IsRangeIter _ _ (lo+((0:Nat):Int)*1) ((((hi-lo).toNat:Nat):Int)-((0:Nat):Int)) 1;rw[e1,L];exact dq _ rfl
  · have e:b=(s.heap.push { cls:=.type "range",data:=.fields #[.int lo t,.int hi u,.int 1 v] }).objs.size:=by simpa using hb
    subst e;exact I1.fpOk (di _)<|I1.hok.fresh<|di _
def Gy (ta:TA):TI:=λZ H R=>ta Z H λvs H1=>∃j:Int,vs=[.int j]/\-(2 ^ 62)<=j/\j<2 ^ 62/\R (FI 0 j.toNat) H1
def Gz (ta:TA):TI:=λZ H R=>ta Z H λvs H1=>∃i j:Int,vs=[.int i,.int j]/\(-(2 ^ 62)<=i/\i<2 ^ 62/\-(2 ^ 62)<=j/\j<2 ^ 62)/\R (FI i (j-i).toNat) H1
theorem YD {a:Expr}{ta:TA}(hg:Gl X "range")(hm:X.mg "range"=G)(ha:PA X [a] ta)(hs:SN X a:=by rfl):PI X tg (.Call (.Name "range" p) [a] [] pos) (Gy ta):=by
 intro cM s Z H R I h;refine Call_<|vd I hg hm boot_range<|eJ (gc (ha pos cM s Z H _ I h) λus s1 hq=>?_) hs rfl;obtain⟨vs,H1,I1,r1,q1⟩:=hq;obtain⟨j,e,q1,q2,q⟩:=q1;subst e;cases r1 with
 |cons r rr=>cases rr;obtain⟨t,rfl⟩:=r;exact call_range_1 (PN I1 (by lia) (by lia) q1 q2<|by simpa using q)
theorem YE {a b:Expr}{ta:TA}(hg:Gl X "range")(hm:X.mg "range"=G)(ha:PA X [a,b] ta)(hs:dJ [a,b] X.env=[(Ã,eW a X.env),(Ã,eW b X.env)]:=by rfl)(uU:SN X b:=by rfl) :
  PI X tg (.Call (.Name "range" p) [a,b] [] pos) (Gz ta):=by
 intro cM s Z H R I h;refine Call_ (vd I hg hm boot_range<|eJ (gc (ha pos cM s Z H _ I h) λus s1 ⟨vs,H1,I1,r1,q1⟩=>?_) (by rw[hs,uU])<|by rw[uU];rfl);obtain⟨i,j,e,⟨q1,q2,q3,q4⟩,q⟩:=q1;subst e;cases r1 with
 |cons r rr=>
  cases rr with
  |cons r' rr=>cases rr;obtain⟨t,rfl⟩:=r;obtain⟨t',rfl⟩:=r';exact call_range_2<|PN I1 q1 q2 q3 q4 q
def Lw (wi:TI)(g:TG)(tb:TS):TS:=λD Z H=>wi Z H λU' H1=>∃W:Nat->Nat->St->Hp->Prop,(∃m,W 0 m Z H1)/\∀i m Z H,W i m Z H ->
 (U'.stop i H/\D.nx Z H)\/(U'.go i H/\∃N:St->Hp->Prop,(∀σ' H',N σ' H'->∃m',m'<m/\W (i+1) m' σ' H')/\∀x H',U'.yld i H x H'->g x Z H' λσ2 H2=>tb { D with nx:=N,ct:=N,bk:=D.nx } σ2 H2)
noncomputable def tZ (fp:List cN)(h:c7):List (cN×gz):=fp.filterMap λb=>(h.get? b).map λo=>(b,o)
theorem uj {o:gz}(hb:b∈fp)(e:h.get? b=U o):(b,o)∈tZ fp h:=Au.mpr ⟨b,hb,by rw[e];rfl⟩
theorem Ye {p:cN×gz}(hp:p∈tZ fp h):p.1∈fp/\h.get? p.1=U p.2:=by
 obtain⟨b,hb,e⟩:=Au.mp hp;cases q:h.get? b with
 |none=>rw[q]at e;cases e
 |some o=>rw[q]at e;have e':(b,o)=p:=Option.some.inj e;subst e';exact⟨hb,q⟩
theorem Ê.pinned (I:Ê X cM Z H s)(hf:∀b∈fp,tG X cM H b)(ho:∀b∈fp,∃o,s.heap.get? b=U o/\∀v,o.data≠.cell v):Ê X (cM++tZ fp s.heap) Z H s :=
 I.pins_of λp hp=>(dc.mp hp).elim (λz=>I.pin p<|cR _ z) λz=>by obtain⟨hb,e⟩:=Ye z;obtain⟨f0,f1,f2,_⟩:=hf p.1 hb;obtain⟨o,e',d⟩:=ho p.1 hb;rw[e]at e';cases e';exact⟨e,f0,f1,f2,d⟩
theorem Ê.unpinned {pl:List (cN×gz)}(I:Ê X (cM++pl) Z H s):Ê X cM Z H s:=I.pins_of λp hp=>I.pin p<|cR _<|cV _ hp
theorem Rq {tb:TS}(hp:lC (dz X.prog X.w) X.A X.env X.xe)(hc:X.calm=Â)(hi:PI X tg iter wi)(hg:PG X tg g)(hb:yU X body tb)
  (hs:A0 X iter:=by intro _;rfl):PS X (.For tg iter body [] pos) (Lw wi g tb):=by
 intro cM s Z H D I h;refine wpAny_For (gc (hi cM s Z H _ I h) λv s1 h1=>gc h1 λKW s2 h2=>?_) hs;obtain⟨it,fp,tn,U',H2,e,I2,T,B8,f2,W,⟨m0,w0⟩,zU⟩:=h2;obtain⟨Cs,T,hT⟩:=T;have hc:=hT hc X rfl rfl;subst e;have zS:∀{H':Hp},(∀b∈fp,H' b=G)->∀b∈fp,tG X cM H' b:=λhn b hb=>⟨hn b hb,(f2 b hb).2⟩;refine codeAny_forLoop_any (λn s'=>∃i σ' H',Ê X cM σ' H' s'/\tn i s'.heap/\(∀b∈fp,H' b=G)/\W i n σ' H') ?_ m0 ⟨0,Z,H2,I2,B8,λb hb=>(f2 b hb).1,w0⟩;rintro n s3 ⟨i,σ3,H3,I3,Oh,Np,w3⟩;rcases zU i n σ3 H3 w3 with⟨stop,qn⟩|⟨go,N,hN,step⟩
 ·refine jS hp<|gc (T.done X rfl rfl rfl hc i cM s3 σ3 H3 X.xe I3 (zS Np) Oh stop) λr s4 gR=>?_;obtain⟨hr,I4⟩:=gR;subst hr;exact qS ⟨σ3,H3,I4,qn⟩
 ·refine jS hp<|gc (T.item X rfl rfl rfl hc i cM s3 σ3 H3 X.xe I3 (zS Np) Oh go) λr s4 gR=>?_;obtain⟨u,hr,h4⟩:=gR;subst hr;refine jS hp<|gc h4 λ_ s5 gR=>?_;obtain⟨x,H5,I5,r5,y5,Fm,HM⟩:=gR;have Sv:=I5.pinned (zS HM)<|T.obj _ _ Fm;refine jS hp<|gc (hg _ s5 σ3 H5 x u _ Sv r5<|step x H5 y5) λ_ s6 gR=>?_;obtain⟨σ6,H6,I6,q6⟩:=gR;refine jS hp<|gc (hb _ s6 σ6 H6 _ I6 q6) λf s7 q7=>?_;have again:∀{σ7:St} {H7:Hp},Ê X (cM++tZ fp s5.heap) σ7 H7 s7->N σ7 H7->∃m,m<n/\∃i σ' H',Ê X cM σ' H' s7/\tn i s7.heap/\(∀b∈fp,H' b=G)/\W i m σ' H':=λ{σ7 H7} I7 n7=>by obtain⟨m',hm,w7⟩:=hN σ7 H7 n7;refine⟨m',hm,i+1,σ7,H7,I7.unpinned,T.keep _ _ _ Fm λb hb o e=>(I7.pin (b,o)<|cR _<|cR _<|uj hb e).1,λb hb=>?_,w7⟩;obtain⟨o,e,d⟩:=T.obj _ _ Fm b hb;exact(I7.pin (b,o)<|cR _<|cR _<|uj hb e).2.1
  cases f with
  |next=>obtain⟨σ7,H7,I7,n7⟩:=q7;exact again I7 n7
  |cont=>obtain⟨σ7,H7,I7,n7⟩:=q7;exact again I7 n7
  |brk=>obtain⟨σ7,H7,I7,q7⟩:=q7;exact⟨σ7,H7,I7.unpinned,q7⟩
  |ret v=>obtain⟨x7,σ7,H7,I7,r7,q7⟩:=q7;exact⟨x7,σ7,H7,I7.unpinned,r7,q7⟩
abbrev R2:=V->V->Hp->VK->Prop
def lU (X:Cx)(f:cJ->cJ->uP cJ)(r:R2):Prop :=
 ∀(cM:List<|cN×gz) (s:cU) (Z:St) (H:Hp) (x y:V) (v u:cJ) (Q:VK),Ê X cM Z H s->Ì x v->Ì y u->r x y H Q ->
  dg (dz X.prog X.w) X.A (f v u) (EP X cM Z Q) X.xe s
def HH (X:Cx)(f:cJ->uP cJ)(r:V->Hp->VK->Prop):Prop :=
 ∀(cM:List<|cN×gz) (s:cU) (Z:St) (H:Hp) (x:V) (v:cJ) (Q:VK),Ê X cM Z H s->Ì x v->r x H Q ->
  dg (dz X.prog X.w) X.A (f v) (EP X cM Z Q) X.xe s
def jK (X:Cx)(f:cJ)(r:List V->Hp->VK->Prop):Prop :=
 ∀(cM:List<|cN×gz) (s:cU) (Z:St) (H:Hp) (xs:List V) (us:List cJ) (Q:VK),Ê X cM Z H s->ez xs us->r xs H Q ->
  dg (dz X.prog X.w) X.A (call f us) (EP X cM Z Q) X.xe s
def Hj (r:R2)(ta tb:TE):TE:=λZ H Q=>ta Z H λx H1=>tb Z H1 λy H2=>r x y H2 Q
def U7 (r:V->Hp->VK->Prop)(ta:TE):TE:=λZ H Q=>ta Z H λx H1=>r x H1 Q
def rI (KK:Int->Int->Prop)(g:Int->Int->V):R2:=λx y H Q=>∃i j,x=.int i/\y=.int j/\KK i j/\Q (g i j) H
def yH (g:Int->Int->V):R2:=λx y H Q=>∃i j,x=.int i/\y=.int j/\Q (g i j) H
def rU (g:Int->V):V->Hp->VK->Prop:=λx H Q=>∃i,x=.int i/\Q (g i) H
variable {r:R2}
section
variable {a b:Expr}{tc:TE}
theorem D1 (ha:PE X a ta)(hb:PE X b tb){R:V->V->Hp->Prop}(I:Ê X cM Z H s)
  (h:ta Z H λx H1=>tb Z H1 λy H2=>R x y H2) {f:cJ->cJ->uP cJ}
  (hf:∀v u s2 x y H2,Ê X cM Z H2 s2->Ì x v->Ì y u->R x y H2->dg (dz X.prog X.w) X.A (f v u) Q X.xe s2) :
  dg (dz X.prog X.w) X.A (eW a X.env) (λv s₁=>dg (dz X.prog X.w) X.A (eW b X.env) (λu s₂=>dg (dz X.prog X.w) X.A (f v u) Q X.xe s₂) X.xe s₁) X.xe s:=by
 refine gc (ha cM s Z H _ I h) λv s1 gR=>?_;obtain⟨x,H1,I1,r1,q1⟩:=gR;refine gc (hb cM s1 Z H1 _ I1 q1) λu s2 gR=>?_;obtain⟨y,H2,I2,r2,q2⟩:=gR;exact hf v u s2 x y H2 I2 r1 r2 q2
theorem Jw {op:rX}(ho:lU X (ik op) r)(ha:PE X a ta)(hb:PE X b tb):PE X (.BinOp a op b pos) (Hj r ta tb):=by intro cM s Z H Q I h;exact wpAny_BinOp<|D1 ha hb I h λv u s2 x y H2 I2 rx ry q=>ho cM s2 Z H2 x y v u Q I2 rx ry q
theorem ĺ {op:UnaryOp}{r:V->Hp->VK->Prop}(ho:HH X (unaryOp op) r)(ha:PE X a ta):PE X (.UnaryOp op a pos) (U7 r ta):=by intro cM s Z H Q I h;exact UnaryOp_<|gc (ha cM s Z H _ I h) λv s1 ⟨x,H1,I1,r1,q1⟩=>ho cM s1 Z H1 x v Q I1 r1 q1
theorem Fi {f:cJ->cJ->uP cJ}{KK:Int->Int->Prop}{g:Int->Int->Int}
  (rule:∀(i j:Int) (t u:Tok) (s:cU) (Q:cJ->cU->Prop) (E:cJ->cU->Prop),KK i j->Q (.int (g i j) s.toks) { s with toks:=s.toks+1 }->dg (dz X.prog X.w) X.A (f (.int i t)<|.int j u) Q E s) :
  lU X f (rI KK λi j=>.int<|g i j):=by
 intro cM s Z H x y v u Q I rx ry h;obtain⟨i,j,rfl,rfl,hc,q⟩:=h;obtain⟨t,rfl⟩:=rx;obtain⟨t',rfl⟩:=ry;exact rule i j t t' s _ _ hc ⟨.int<|g i j,H,I.tok _,⟨_,rfl⟩,q⟩
theorem GW {f:cJ->cJ->uP cJ}{g:Int->Int->Int}
  (rule:∀(i j:Int) (t u:Tok) (s:cU) (Q:cJ->cU->Prop) (E:cJ->cU->Prop),Q (.int (g i j) s.toks) { s with toks:=s.toks+1 }->dg (dz X.prog X.w) X.A (f (.int i t)<|.int j u) Q E s) :
  lU X f (yH λi j=>.int<|g i j):=by
 intro cM s Z H x y v u Q I rx ry h;obtain⟨i,j,rfl,rfl,q⟩:=h;obtain⟨t,rfl⟩:=rx;obtain⟨t',rfl⟩:=ry;exact rule i j t t' s _ _ ⟨.int<|g i j,H,I.tok _,⟨_,rfl⟩,q⟩
theorem CN {f:cJ->cJ->uP cJ}{g:Int->Int->Bool}
  (rule:∀(i j:Int) (t u:Tok) (s:cU) (Q:cJ->cU->Prop) (E:cJ->cU->Prop),Q (.bool<|g i j) s->dg (dz X.prog X.w) X.A (f (.int i t)<|.int j u) Q E s) :
  lU X f (yH λi j=>.bl<|g i j):=by
 intro cM s Z H x y v u Q I rx ry h;obtain⟨i,j,rfl,rfl,q⟩:=h;obtain⟨t,rfl⟩:=rx;obtain⟨t',rfl⟩:=ry;exact rule i j t t' s _ _ ⟨.bl<|g i j,H,I,rfl,q⟩
def Ci (i j:Int):Prop:=0<=j/\j<=1000000/\i.natAbs<2 ^ 64
def DU (i j:Int):Prop:=(-(2 ^ 64)<i/\i<2 ^ 64)\/(-(2 ^ 64)<j/\j<2 ^ 64)
theorem DU.ok {i j:Int}(h:DU i j):IntMulOk i j:=by
 rcases h with⟨h1,h2⟩|⟨h1,h2⟩
 ·exact .of_left<|intBits_le_64 h1 h2
 ·exact .of_right<|intBits_le_64 h1 h2
theorem X3 (k:Nat):(0:Int)<=2 ^ k:=by rw[two_pow_cast];exact Int.natCast_nonneg _
theorem Τ:lU X (ik .Add) (yH λi j=>.int<|i+j):=GW λ_ _ _ _ _ _ _ q=>add_int q
theorem Ρ:lU X (ik .Sub) (yH λi j=>.int<|i-j):=GW λ_ _ _ _ _ _ _ q=>sub_int q
theorem zta:lU X (ik .Mod) (rI (λ_ j=>j≠0) λi j=>.int<|i.fmod j):=Fi λ_ _ _ _ _ _ _ hc q=>mod_int' hc q
theorem Fx:lU X (ik .Pow) (rI Ci λi j=>.int<|i ^ j.toNat):=Fi λ_ _ _ _ _ _ _ hc q=>pow_int_small hc.1 hc.2.1 hc.2.2 q
theorem Ο:lU X (ik .LShift) (rI Ci λi j=>.int<|i*2 ^ j.toNat):=Fi λ_ _ _ _ _ _ _ hc q=>lshift_int_small hc.1 hc.2.1 hc.2.2 q
theorem Rf:lU X (ik .RShift) (rI (λ_ j=>0<=j) λi j=>.int<|i/2 ^ j.toNat):=Fi λi j _ _ _ _ _ hc q=>rshift_int hc (by rw[vB i<|X3 _];exact q)
theorem Va {f:cJ->uP cJ}{g:Int->Int}
  (rule:∀(i:Int) (t:Tok) (s:cU) (Q:cJ->cU->Prop) (E:cJ->cU->Prop),Q (.int (g i) s.toks) { s with toks:=s.toks+1 }->dg (dz X.prog X.w) X.A (f<|.int i t) Q E s) :
  HH X f (rU λi=>.int<|g i):=by
 intro cM s Z H x v Q I rx h;obtain⟨i,rfl,q⟩:=h;obtain⟨t,rfl⟩:=rx;exact rule i t s _ _ ⟨.int<|g i,H,I.tok _,⟨_,rfl⟩,q⟩
theorem Ξ:HH X (unaryOp .USub) (rU λi=>.int<|-i):=Va λ_ _ _ _ _ q=>neg_int q
end
section
variable {a b:Expr}{tc:TE}
theorem Jg {Q:VK}{k k':Bool}(I:Ê X cM Z H s)(q:Q (.bl k) H)(e:k=k'):EP X cM Z Q (.bool k') s:=by subst e;exact⟨.bl k,H,I,rfl,q⟩
theorem Ĺ:lU X (eX .Lt) (yH λi j=>.bl<|decide<|i<j):=CN λ_ _ _ _ _ _ _ q=>lt_int q
theorem ĸ:lU X (eX .LtE) (yH λi j=>.bl<|decide<|i<=j):=CN λ_ _ _ _ _ _ _ q=>le_int q
theorem R3:lU X (eX .Gt) (yH λi j=>.bl<|decide<|j<i):=CN λ_ _ _ _ _ _ _ q=>gt_int q
theorem ķ:lU X (eX .GtE) (yH λi j=>.bl<|decide<|j<=i):=CN λ_ _ _ _ _ _ _ q=>ge_int q
theorem Ν:lU X (eX .Is) (λx y H Q=>y=.non/\Q (.bl<|decide<|x=.non) H):=by
 intro cM s Z H x y v u Q I rx ry h;obtain⟨rfl,q⟩:=h;cases ry;refine is_none_gen<|Jg I q ?_;cases x<;>first
  |(cases rx;rfl)
  |(obtain⟨t,rfl⟩:=rx;rfl)
theorem ztb:lU X (eX .IsNot) (λx y H Q=>y=.non/\Q (.bl<|!decide (x=.non)) H):=by
 intro cM s Z H x y v u Q I rx ry h;obtain⟨rfl,q⟩:=h;cases ry;refine isnot_none_gen<|Jg I q ?_;cases x<;>first
  |(cases rx;rfl)
  |(obtain⟨t,rfl⟩:=rx;rfl)
theorem iL (b:Expr)(h:op≠.In:=by decide)(h2:op≠.NotIn:=by decide):f9 op b=Ã:=by
 have e1:(op==Aw.In)=Ã:=by cases op<;>first|rfl|exact absurd rfl h
 have L:(op==Aw.NotIn)=Ã:=by cases op<;>first|rfl|exact absurd rfl h2
 cases b<;>simp[f9,e1,L]
theorem Qu (ho:lU X (eX op) r)(ha:PE X a ta)(hb:PE X b tb)(hm:f9 op b=Ã):PE X (.Compare a [op] [b] pos) (Hj r ta tb):=by intro cM s Z H Q I h;exact wpAny_Compare1 (D1 ha hb I h λv u s2 x y H2 I2 rx ry q=>ho cM s2 Z H2 x y v u Q I2 rx ry q) hm
def Hl (t:TE):TT:=λZ H Q=>t Z H λx H'=>∃k,x=.bl k/\Q k H'
theorem Qv (ho:lU X (eX op) r)(ha:PE X a ta)(hb:PE X b tb)(hm:f9 op b=Ã):PT X (.Compare a [op] [b] pos) (Hl<|Hj r ta tb):=by intro cM s Z H Q I h;refine wpAny_isTrue_Compare1 (gc (ha cM s Z H _ I h) λv s1 ⟨x,H1,I1,r1,q1⟩=>gc (hb cM s1 Z H1 _ I1 q1) λu s2 ⟨y,H2,I2,r2,q2⟩=>gc (ho cM s2 Z H2 x y v u _ I2 r1 r2 q2) λc s3 hq=>?_) hm;obtain⟨z,H3,I3,r3,k,e,q3⟩:=hq;subst e;cases r3;exact iO ⟨H3,I3,q3⟩
theorem pK:(sizeLine:Nat)<2 ^ 63:=by rw[dW];decide
theorem X4:lU X (ik .Add) (λx y H Q=>∃i j,x=.str i/\y=.str j/\i.length+j.length<=sizeLine/\Q (.str<|i++j) H):=by intro cM s Z H x y v u Q I rx ry h;obtain⟨i,j,rfl,rfl,hz,q⟩:=h;obtain⟨t,rfl⟩:=rx;obtain⟨t',rfl⟩:=ry;exact add_str (λt' tk=>⟨.str<|i++j,H,I.tok _,⟨_,rfl⟩,q⟩) hz
theorem tD {x:V}(r:ez [x] us):∃u,us=[u]/\Ì x u:=by
 cases r with
 |cons r1 r2=>cases r2;exact⟨_,rfl,r1⟩
theorem õ {x:V}(r:ez [x,y] us):∃u w',us=[u,w']/\Ì x u/\Ì y w':=by
 cases r with
 |cons r1 r2=>
  cases r2 with
  |cons r3 r4=>cases r4;exact⟨_,_,rfl,r1,r3⟩
theorem LL (hc:X.calm=Â):jK X (.builtin "max") (λxs H Q=>∃i j,xs=[.int i,.int j]/\Q (.int<|if j > i then j else i) H):=by
 intro cM s Z H xs us Q I r h;obtain⟨i,j,rfl,q⟩:=h;obtain⟨u,w',rfl,⟨t,rfl⟩,⟨t',rfl⟩⟩:=õ r;refine max_two_ints (I.ok.hd hc) λh' tk k=>⟨_,H,I.kept k,?_,q⟩;by_cases hj:j > i
 ·rw[if_pos hj,if_pos hj];exact⟨_,rfl⟩
 ·rw[if_neg hj,if_neg hj];exact⟨_,rfl⟩
theorem Yf:jK X (.type "int") (λxs H Q=>(∃i,xs=[.int i]/\Q (.int i) H)\/∃k,xs=[.bl k]/\Q (.int<|if k then 1 else 0) H):=by
 intro cM s Z H xs us Q I r h;rcases h with⟨i,rfl,q⟩|⟨k,rfl,q⟩
 ·obtain⟨u,rfl,t,rfl⟩:=tD r;exact call_int_int ⟨.int i,H,I,⟨_,rfl⟩,q⟩
 ·obtain⟨u,rfl,r1⟩:=tD r;cases r1;exact call_int_bool ⟨.int<|if k then 1 else 0,H,I.tok _,⟨_,rfl⟩,q⟩
theorem zq:jK X (.type "str") (λxs H Q=>∃i,xs=[.int i]/\i.natAbs.log2<1920/\Q (.str<|toString i) H):=by intro cM s Z H xs us Q I r h;obtain⟨i,rfl,hz,q⟩:=h;obtain⟨u,rfl,t,rfl⟩:=tD r;exact PySem.P.str_of_int hz ⟨.str _,H,I.tok _,⟨_,rfl⟩,q⟩
end
structure yT (h:c7)(x dx KK:cN)(mA:Str->Option cJ):Prop where
 obj:h.get? x=U (gX KK dx)
 ns:h.Ns1 dx mA
 ne:dx≠x
variable {dx:cN}{mA:Str->Option cJ}
theorem Yg (n:h.Ns1 dx mA):∃od,h.get? dx=U od/\∀name,pj name od=U (mA name):=by
 obtain⟨o,es,ep,ho,hd,hk,_,hm⟩:=n;refine⟨o,ho,λname=>?_⟩;have e:=hm name;unfold nsFind findBy at e;rw[←zV]at e;unfold pj;rw[hd];dsimp only;split
 ·rename_i y q;rw[q]at e;exact congrArg U e
 ·rename_i q;rw[q]at e;have a:es.toList.any (·.refKey)=Ã:=by rw[List.any_eq_false];intro y hy;obtain⟨z,t,Km⟩:=hk y<|Array.mem_toList_iff.mp hy;simp[DictEntry.refKey,Km]
  have a':¬es.toList.any (·.refKey)=Â:=by rw[a];exact cZ
  rw[if_neg a'];exact congrArg U e
variable {KK:cN}
theorem yT.look {x:cN}(I:yT h x dx KK mA):∃od,PySem.W.InstAt h x (gX KK dx) KK (U od)/\∀name,pj name od=U (mA name) :=
 let⟨od,ho,hl⟩:=Yg I.ns
 ⟨od,⟨I.obj,rfl,rfl,ho⟩,hl⟩
variable {R:Result->cU->Prop}{f:cN}{kw:List (Str×cJ)}{name:Str}{pl:uP Bool}{vs:List cJ}
section
variable {prog:eL}{w:d8}{A:d6}{K:cL}{x:cN}{v:cJ}
theorem ztc {expr:Bool}(X:K.In s.heap)(I:yT s.heap x dx KK mA)(hg:nO K KK name=Â)(hh:rh K KK=Â)
  (ha:fT K (.ref KK) name=U G) (hv:mA name=U v) (CG:Aa v=Â) (h:Q v { s with toks:=s.toks+1 }) :
  dg (dz prog w) A (getAttr (.ref x) name expr) Q E s:=by
 obtain⟨od,U',hl⟩:=I.look;exact PySem.W.get_value X U' (pV hg).1 (PySem.W.findObj_own hh ha rfl<|by rw[hl,hv]) CG h
theorem Zx {Q:cJ×List cJ->cU->Prop}(X:K.In s.heap)(I:yT s.heap x dx KK mA)(hg:nO K KK name=Â)
  (hf:fT K (.ref KK) name=U (U<|.ref f)) (ht:vD K (.ref f)=Â) (hv:mA name=G) (h:Q (.ref f,[.ref x]) s) :
  dg (dz prog w) A (lD (.ref x) name pl) Q E s:=by
 obtain⟨od,U',hl⟩:=I.look;exact PySem.W.method_fn X U' (pV hg).1 (pV hg).2 hf (beq_iff_eq.mp ht) (by show(pj name od).map (·.isSome)=U Ã;rw[hl,hv];rfl) h
theorem ztd {ns:List Str}{Q:Unit->cU->Prop}(X:K.In s.heap)(I:yT s.heap x dx KK mA)
  (hs:fT K (.ref KK) "__setattr__"=U (U<|.builtin "object.__setattr__")) (hp:yN K KK=Â) (ht:sT K KK name=U G) (hh:rh K KK=Â)
  (hw:PySem.Within mA ns) (hsz:ns.length<=sizeLine)
  (h:∀h',yT h' x dx KK (λy=>if y=name then U v else mA y)->fe dx s.heap h'->Q () { s with heap:=h',toks:=s.toks+2 }) :
  dg (dz prog w) A (setAttr (.ref x) name v) Q E s:=by
 obtain⟨od,U',hl⟩:=I.look;refine PySem.W.set_plain X U' hs<|PySem.W.osa_open (s:={ s with toks:=s.toks+1 }) (r:=none) X U' hp ht λb=>?_;obtain⟨cd,hc,J8⟩:=PySem.W.any_some hh;have hx:s.heap.get? x=U ⟨.ref KK,U dx,.plain,#[]⟩:=I.obj;refine cO<|dw<|cO<|cO<|wpAny_loadPart hx<|cO<|PySem.W.Looks.here (s:={ s with toks:=s.toks+1 }) (PySem.W.looks_clsIn X hc) ?_;rw[J8];refine dw (a:=some dx)<|cO<|dw<|cO ?_;refine wpAny_nsSet1 (s:={ s with toks:=s.toks+1 }) I.ns λh' Dv uU=>?_;obtain⟨oD,esD,epD,Uc,TU,TQ⟩:=Dv.count<|PySem.Within.cons name v hw;refine cO (wpAny_lookBehind Uc (by rw[TU];exact pastItsLine_dict (eQ TQ<|by rw[cX];lia)) ?_);exact dw<|h _ ⟨(uU.2 _<|Ne.symm I.ne).trans I.obj,Dv,I.ne⟩ uU
theorem Zy (X:K.In s.heap)(hm:sR K KK=Â)
  (hi:fT K (.ref KK) "__init__"=U (U<|.ref f)) (hf:AZ K (.ref f)=U (.type "function"))
  (h:lx (dz prog w) (A.under<|.builtin "type.__call__" ⟨.ref KK::vs,kw⟩) (.call (.ref f) ⟨.ref (s.heap.objs.size+1)::vs,kw⟩) (PySem.W.InitBack (s.heap.objs.size+1) R)
   { s with heap:=(s.heap.push fS).push (gX KK s.heap.objs.size) }) :
  lx (dz prog w) A (.call (.ref KK) ⟨vs,kw⟩) R s:=by
 obtain⟨hh,g,d,t,os⟩:=s;exact PySem.W.make_core (PySem.W.makes_of X hm) (PySem.W.looks_findIn X hi) (λself=>PySem.W.bind_fn X self hf) (.inl rfl) h
end
noncomputable def nJ (f:Str)(v:V):List (Str×V)->List (Str×V)
 |[]=>[(f,v)]
 |(g,x)::r=>if g=f then(g,v)::r else(g,x)::nJ f v r
theorem OB (f g:Str)(v:V):∀fs:List (Str×V),(nJ f v fs).lookup g=if g=f then U v else fs.lookup g
 |[]=>by
  show lT g [(f,v)]=_;by_cases h:g=f
  ·have hb:(g==f)=Â:=beq_iff_eq.mpr h;simp only[lT,hb,if_pos h]
  ·have hb:(g==f)=Ã:=beq_eq_false_iff_ne.mpr h;simp only[lT,hb,if_neg h]
 |(k,x)::r=>by
  have ih:=OB f g v r;rw[show nJ f v ((k,x)::r)=(if k=f then(k,v)::r else(k,x)::nJ f v r)from rfl];by_cases hk:k=f
  ·rw[if_pos hk];by_cases h:g=k
   ·have hb:(g==k)=Â:=beq_iff_eq.mpr h;simp only[lT,hb,if_pos<|h.trans hk]
   ·have hb:(g==k)=Ã:=beq_eq_false_iff_ne.mpr h;simp only[lT,hb,if_neg<|λe:g=f=>h<|e.trans hk.symm]
  ·rw[if_neg hk];by_cases h:g=k
   ·have hb:(g==k)=Â:=beq_iff_eq.mpr h;simp only[lT,hb,if_neg<|λe:g=f=>hk<|h.symm.trans e]
   ·have hb:(g==k)=Ã:=beq_eq_false_iff_ne.mpr h;simp only[lT,hb];exact ih
theorem LM (f:Str)(v:V):∀fs:List (Str×V),f∈(nJ f v fs).map (·.1)/\∀g,g∈fs.map (·.1)->g∈(nJ f v fs).map (·.1)
 |[]=>⟨by simp[nJ],λg h=>by simp at h⟩
 |(k,x)::r=>by
  obtain⟨i1,i2⟩:=LM f v r;rw[show nJ f v ((k,x)::r)=(if k=f then(k,v)::r else(k,x)::nJ f v r)from rfl];by_cases hk:k=f
  ·rw[if_pos hk];subst hk;exact⟨by simp,λg h=>by simpa using h⟩
  ·rw[if_neg hk];refine⟨?_,λg h=>?_⟩
   ·rw[dC];exact cQ _ i1
   ·rw[dC]at h ⊢;rcases cP.mp h with e|e
    ·exact cP.mpr<|.inl e
    ·exact cQ _<|i2 g e
theorem OJ (f:Str)(v:V):∀fs:List (Str×V),(nJ f v fs).length<=fs.length+1
 |[]=>by simp[nJ]
 |(k,x)::r=>by
  have ih:=OJ f v r;rw[show nJ f v ((k,x)::r)=(if k=f then(k,v)::r else(k,x)::nJ f v r)from rfl];by_cases hk:k=f
  ·rw[if_pos hk,cX,cX];lia
  ·rw[if_neg hk,cX,cX];lia
theorem oS.some_of {v:V}{o:Option cJ}(r:oS (U v) o):∃u,o=U u/\Ì v u:=by
 cases o with
 |none=>exact(show False from r).elim
 |some u=>exact⟨u,rfl,r⟩
theorem oS.none_of {o:Option cJ}(r:oS G o):o=G:=by
 cases o with
 |none=>rfl
 |some u=>exact(show False from r).elim
theorem Yh {v:V}(r:Ì v u):Aa u=Â:=by
 cases v with
 |non=>cases(show u=cJ.none from r);rfl
 |bl b=>cases(show u=cJ.bool b from r);rfl
 |int i=>obtain⟨t,e⟩:=(show∃t,u=cJ.int i t from r);cases e;rfl
 |str x=>obtain⟨t,e⟩:=(show∃t,u=cJ.str x t from r);cases e;rfl
 |byt b=>obtain⟨t,e⟩:=(show∃t,u=cJ.bytes b t from r);cases e;rfl
 |flt b=>obtain⟨t,e⟩:=(show∃t,u=cJ.float b t from r);cases e;rfl
 |ref a=>cases(show u=cJ.ref a from r);rfl
 |ty n=>cases(show u=cJ.type n from r);rfl
section
variable {w:d8}{a:cN}{fs E8:List (Str×V)}
theorem IW (hok:rn P w H h)(e:H a=U (.ins KK dx fs)):∃mA,yT h a dx KK mA/\(∀f,oS (fs.lookup f)<|mA f)/\PySem.Within mA (fs.map (·.1))/\fs.length<=1000/\H dx=U (.own a):=by obtain⟨d,z,ne,ob,mA,n,r,q⟩:=(show hV P w H h a (.ins KK dx fs)from hok a _ e);exact⟨mA,⟨ob,n,ne⟩,r,q,z,d⟩
end
structure nY (K:cL)(KK:cN):Prop where
 pg:nO K KK Str.empty=Â
 hd:rh K KK=Â
 po:yN K KK=Â
 sa:fT K (.ref KK) "__setattr__"=U (U<|.builtin "object.__setattr__")
theorem nY.get {K:cL}(c:nY K KK)(f:Str):nO K KK f=Â:=c.pg
def fP (K:cL)(KK:cN)(f:Str):Prop:=fT K (.ref KK) f=U G
theorem fP.taker {K:cL}{f:Str}(n:fP K KK f):sT K KK f=U G:=by unfold sT;rw[show fT K (.ref KK) f=U G from n];rfl
structure yR (K:cL)(KK:cN)(m:Str)(f:cN):Prop where
 at_:fT K (.ref KK) m=U (U<|.ref f)
 fn:vD K (.ref f)=Â
 kp:fU K (.ref f)=Â
variable {m:Str}
section
variable {a:cN}{fs:List (Str×V)}{f:Str}{v:V}{A:d6}
theorem OV {b:Bool}(I:Ê X cM Z H s)(e:H a=U (.ins KK dx fs))(c:nY X.K KK)(n:fP X.K KK f)(l:fs.lookup f=U v)
  (h:∀u s',Ê X cM Z H s'->Ì v u->Q u s'):dg (dz X.prog X.w) A (getAttr (.ref a) f b) Q E s:=by
 obtain⟨mA,S',r,_,_,_⟩:=IW I.hok e;obtain⟨u,hu,ru⟩:=oS.some_of (v:=v) (o:=mA f) (by rw[←l];exact r f);exact ztc I.kIn S' (c.get f) c.hd n hu (Yh ru)<|h u _ (I.tok _) ru
theorem ju {g:cN}{Q:cJ×List cJ->cU->Prop}(I:Ê X cM Z H s)(e:H a=U (.ins KK dx fs))(c:nY X.K KK)(k:yR X.K KK m g)(l:fs.lookup m=G)
  (h:Q (.ref g,[.ref a]) s):dg (dz X.prog X.w) A (lD (.ref a) m pl) Q E s:=by
 obtain⟨mA,S',r,_,_,_⟩:=IW I.hok e;have hn:mA m=G:=oS.none_of (by rw[←l];exact r m);exact Zx I.kIn S' (c.get m) k.at_ k.fn hn h
theorem OP {Q:Unit->cU->Prop}(I:Ê X cM Z H s)(e:H a=U (.ins KK dx fs))(c:nY X.K KK)(n:fP X.K KK f)(hl:fs.length<1000)(ry:Ì y u)
  (h:∀s',Ê X cM Z (upd H a<|.ins KK dx<|nJ f y fs) s'->Q () s'):dg (dz X.prog X.w) A (setAttr (.ref a) f u) Q E s:=by
 obtain⟨mA,S',r,wi,_,ho⟩:=IW I.hok e;have hz:(fs.map (·.1)).length<=sizeLine:=by rw[dr,dW];lia
 refine ztd I.kIn S' c.sa c.po n.taker c.hd wi hz λh' O' sb=>h _ ?_;have hd:∃o,h'.get? dx=U o:=let⟨o,_,_,e',_⟩:=O'.ns;⟨o,e'⟩;refine I.write (x:=a) (e:=dx) (by rw[e];exact True.intro) (.inr ho) (λb q hb z=>(sb.2 b hb).trans z) hd ?_;refine⟨by rw[zo S'.ne];exact ho,?_,S'.ne,O'.obj,_,O'.ns,λg=>?_,λg hg=>?_⟩
 ·have:=OJ f y fs;lia
 ·show oS ((nJ f y fs).lookup g) (if g=f then U u else mA g);rw[OB];by_cases q:g=f
  ·rw[if_pos q,if_pos q];exact ry
  ·rw[if_neg q,if_neg q];exact r g
 ·by_cases q:g=f
  ·rw[q];exact(LM f y fs).1
  ·refine(LM f y fs).2 g<|wi g λz=>hg ?_;show(if g=f then U u else mA g)=G;rw[if_neg q];exact z
theorem Ê.made (I:Ê X cM Z H s):Ê X cM Z (upd (upd H s.heap.objs.size<|.own<|s.heap.objs.size+1) (s.heap.objs.size+1)<|.ins KK s.heap.objs.size [])
  { s with heap:=(s.heap.push fS).push (gX KK s.heap.objs.size) }:=by
 have e1:(s.heap.push fS).get? s.heap.objs.size=U fS:=dq s.heap rfl;have L:((s.heap.push fS).push<|gX KK s.heap.objs.size).get? (s.heap.objs.size+1)=U (gX KK s.heap.objs.size):=by have:=dq (s.heap.push fS) (o:=gX KK s.heap.objs.size) rfl;rwa[gQ]at this
 have e3:(s.heap.push fS).Ns s.heap.objs.size (λ_=>G):=⟨fS,#[],_,e1,rfl,(λe he=>absurd he<|by simp),λ_=>rfl⟩;have I1:=I.laid (a:=s.heap.objs.size) (o:=.own<|s.heap.objs.size+1) (h':=s.heap.push fS) (t':=s.toks) (λb u q=>cS _ q) (di _) ⟨_,e1⟩;refine I1.laid (a:=s.heap.objs.size+1) (o:=.ins KK s.heap.objs.size []) (t':=s.toks) (λb u q=>cS _ q) (xY<|gQ _ _) ?_;have ne:s.heap.objs.size≠s.heap.objs.size+1:=dB<|oy _;refine⟨by rw[zo ne,zu],e8 _,ne,L,λ_=>G,(c7.Ns1.of_empty e3).at λo q=>cS _ q,λ_=>True.intro,λy hy=>absurd rfl hy⟩
theorem zte {prog:eL}{w:d8}{env:Env}{f:Str}(hb:mz e f env (eW e env)=eW e env)
  (h:dg (dz prog w) A (eW e env) (λo s₁=>dg (dz prog w) A (getAttr o f Â) Q E s₁) E s):dg (dz prog w) A (eW (.Attribute e f pos) env) Q E s :=
 Attribute_any_ h (by rw[arm_eval_Attribute,hb])
end
def Lv (K:cL)(ta:TE)(f:Str):TE:=λZ H Q=>ta Z H λx H1=>∃a KK dx fs v,x=.ref a/\H1 a=U (.ins KK dx fs)/\nY K KK/\fP K KK f/\fs.lookup f=U v/\Q v H1
def Ln (K:cL)(ta tv:TE)(f:Str):TS:=λD Z H=>tv Z H λy H1=>ta Z H1 λx H2=>∃a KK dx fs,x=.ref a/\H2 a=U (.ins KK dx fs)/\nY K KK/\fP K KK f/\fs.length<1000 /\
 D.nx Z (upd H2 a<|.ins KK dx<|nJ f y fs)
def FH (X:Cx)(op:rX)(rd:V->V->Hp->VK->Prop):Prop :=
 ∀(cM:List<|cN×gz) (s:cU) (Z:St) (H:Hp) (x y:V) (u v:cJ) (Q:VK),Ê X cM Z H s->Ì x u->Ì y v->rd x y H Q->dg (dz X.prog X.w) X.A (inplaceOp op u v) (EP X cM Z Q) X.xe s
def CU (K:cL)(ta tv:TE)(rd:V->V->Hp->VK->Prop)(f:Str):TS:=λD Z H=>ta Z H λx H1=>∃a KK dx fs v,x=.ref a/\H1 a=U (.ins KK dx fs)/\nY K KK/\fP K KK f/\fs.lookup f=U v /\
 tv Z H1 λy H2=>rd v y H2 λz H3=>∃FY E8,H3 a=U (.ins KK FY E8)/\E8.length<1000/\D.nx Z (upd H3 a<|.ins KK FY<|nJ f z E8)
variable {fL:mR}{value:Expr}
section
variable {f:Str}{tv:TE}
theorem MQ (he:PE X e ta)(hb:yO X e f):PE X (.Attribute e f pos) (Lv X.K ta f):=by intro cM s Z H Q I h;refine zte hb<|gc (he cM s Z H _ I h) λu s1 gR=>?_;obtain⟨x,H1,I1,rx,a,KK,dx,fs,v,ex,ea,c,n,l,q⟩:=gR;subst ex;obtain rfl:u=cJ.ref a:=rx;exact OV I1 ea c n l λu' s2 I2 ru=>⟨v,H1,I2,ru,q⟩
theorem Jh (ha:PE X o ta)(hv:PE X value tv)(hs:gk value (U<|.Attribute o f pos') pos.line X.env=pure Ã):PS X (.Assign [.Attribute o f pos'] value pos) (Ln X.K ta tv f):=by intro cM s Z H D I h;refine plainObj_wpAny_Assign_Attribute (gc (hv cM s Z H _ I h) λu s1 ⟨y,H1,I1,ry,q⟩=>gc (ha cM s1 Z H1 _ I1 q) λov s2 hq=>?_) hs;obtain⟨x,H2,I2,rx,a,KK,dx,fs,ex,ea,c,n,l,q2⟩:=hq;subst ex;obtain rfl:ov=cJ.ref a:=rx;exact OP I2 ea c n l ry λs3 I3=>⟨Z,_,I3,q2⟩
theorem Yi {op:rX}{rd:V->V->Hp->VK->Prop}(ha:PE X o ta)(hv:PE X value tv)(hop:FH X op rd):PS X (.AugAssign (.Attribute o f qY) op value pos) (CU X.K ta tv rd f):=by intro cM s Z H D I h;refine wpAny_AugAssign_AttributeAny<|gc (ha cM s Z H _ I h) λov s1 gR=>?_;obtain⟨x,H1,I1,rx,a,KK,dx,fs,v,ex,ea,c,n,l,q⟩:=gR;subst ex;obtain rfl:ov=cJ.ref a:=rx;refine OV I1 ea c n l λu s2 I2 ru=>gc (hv cM s2 Z H1 _ I2 q) λw3 s3 ⟨y,H2,I3,ry,q3⟩=>gc (hop cM s3 Z H2 v y u w3 _ I3 ru ry q3) λw4 s4 gR=>?_;obtain⟨z,H3,I4,rz,FY,E8,SY,l',q4⟩:=gR;exact OP I4 SY c n l' rz λs5 I5=>⟨Z,_,I5,q4⟩
def CP:V->V->Hp->VK->Prop:=λx y H Q=>∃i j,x=.int i/\y=.int j/\Q (.int<|i+j) H
theorem Μ:FH X .Add CP:=by rintro cM s Z H x y u v Q I rx ry ⟨i,j,rfl,rfl,q⟩;obtain⟨t,rfl⟩:=(show∃t,u=cJ.int i t from rx);obtain⟨t',rfl⟩:=(show∃t',v=cJ.int j t' from ry);exact PyProof.Rows.iadd_int ⟨.int<|i+j,H,I.tok _,⟨_,rfl⟩,q⟩
theorem ztf {args:List Expr}(he:PE X e te)(I:Ê X cM Z H s)
  (h:te Z H λx H1=>∃a KK dx fs g,x=.ref a/\H1 a=U (.ins KK dx fs)/\nY X.K KK/\yR X.K KK m g/\fs.lookup m=G /\
   ∀s1,Ê X cM Z H1 s1->dg (dz X.prog X.w) X.A (mS pos (.ref g) [.ref a] (i8 pos<|dJ args X.env)<|i9 pos<|fY [] X.env) Q X.xe s1)
  (ht:eW (.Call (.Attribute e m fL) args [] pos) X.env=(do
   let ov ← eW e X.env
   kN fL.atName
   let(f,first) ← ir [ov] (lD ov m pl)
   mS pos f first (i8 pos<|dJ args X.env) (i9 pos<|fY [] X.env))) :
  dg (dz X.prog X.w) X.A (eW (.Call (.Attribute e m fL) args [] pos) X.env) Q X.xe s:=by
 refine lz (pl:=pl) (gc (he cM s Z H _ I h) λu s1 hq=>?_) ht;obtain⟨x,H1,I1,rx,a,KK,dx,fs,g,ex,ea,c,k,l,q⟩:=hq;subst ex;obtain rfl:u=cJ.ref a:=rx;exact ju I1 ea c k l<|q s1 I1
end
section
variable {A:d6}{c:cJ}{b:Bool}
class inductive qT (K:cL)(H:Hp):V->cJ->Prop where
 |non:qT K H .non (.type "NoneType")
 |bl (x:Bool):qT K H (.bl x) (.type "bool")
 |int (i:Int):qT K H (.int i) (.type "int")
 |str (x:Str):qT K H (.str x) (.type "str")
 |flt (x:UInt64):qT K H (.flt x) (.type "float")
 |lst {a:cN} {xs:List V} (e:H a=U (.lst xs)):qT K H (.ref a) (.type "list")
 |frz {a:cN} {o:gz} {xs:List V} (e:H a=U (.frz o<|.lst xs)):qT K H (.ref a) (.type "list")
 |tup {a:cN} {xs:List V} (e:H a=U (.tup xs)):qT K H (.ref a) (.type "tuple")
 |dK {a:cN} {fm:List (kL×V)} (e:H a=U (.dK fm)):qT K H (.ref a) (.type "dict")
 |dT {a:cN} {fm:List (List kL×V)} (e:H a=U (.dT fm)):qT K H (.ref a) (.type "dict")
 |ins {a KK dx:cN} {fs:List (Str×V)} (e:H a=U (.ins KK dx fs)) (cl:nY K KK) (ha:fT K (.ref KK) "__class__"=U (U<|.builtin "object.__class__"))
   (hn:kU K (.builtin "object.__class__") "__get__"=U (U<|.builtin "getset_descriptor.__get__")) (NW:AC K (.builtin "object.__class__")=U Â)
   (hm:Bj K KK (.type "object")=U Â):qT K H (.ref a) (.ref KK)
theorem Pb {x:V}{t:cJ}(I:Ê X cM Z H s)(rx:Ì x u)(ty:qT X.K H x t)(e:iG X.K t c=U b)(h:∀tk,Q (.bool b) { s with toks:=tk }) :
  dg (dz X.prog X.w) A (call (.builtin "isinstance") [u,c]) Q E s:=by
 cases ty with
 |non=>cases(show u=cJ.none from rx);exact fC PySem.W.kitx_none I.kIn True.intro e (λz=>nomatch z) h
 |bl y=>cases(show u=cJ.bool y from rx);exact fC PySem.W.kitx_bool I.kIn True.intro e (λz=>nomatch z) h
 |int i=>obtain⟨t,q⟩:=(show∃t,u=cJ.int i t from rx);cases q;exact fC PySem.W.kitx_int I.kIn True.intro e (λz=>nomatch z) h
 |str y=>obtain⟨t,q⟩:=(show∃t,u=cJ.str y t from rx);cases q;exact fC PySem.W.kitx_str I.kIn True.intro e (λz=>nomatch z) h
 |flt y=>obtain⟨t,q⟩:=(show∃t,u=cJ.float y t from rx);cases q;exact fC PySem.W.kitx_float I.kIn True.intro e (λz=>nomatch z) h
 |@lst a xs ea=>cases(show u=cJ.ref a from rx);obtain⟨_,_,n,_,h1⟩:=(show hV X.prog X.w H s.heap a (.lst xs)from I.hok a _ ea);exact fC rj I.kIn ⟨_,h1,rfl⟩ e (λz=>nomatch z) h
 |@frz a ob xs ea=>cases(show u=cJ.ref a from rx);obtain⟨_,_,_,n,_,h1⟩:=(show hV X.prog X.w H s.heap a (.frz ob<|.lst xs)from I.hok a _ ea);exact fC rj I.kIn ⟨_,h1,rfl⟩ e (λz=>nomatch z) h
 |@tup a xs ea=>cases(show u=cJ.ref a from rx);obtain⟨_,_,_,p⟩:=(show hV X.prog X.w H s.heap a (.tup xs)from I.hok a _ ea);obtain⟨o,h1,h2,_⟩:=p;exact fC PySem.W.kitx_tuple I.kIn ⟨o,h1,h2⟩ e (λz=>nomatch z) h
 |@dK a fm ea=>cases(show u=cJ.ref a from rx);obtain⟨_,_,vs,_,p⟩:=(show hV X.prog X.w H s.heap a (.dK fm)from I.hok a _ ea);obtain⟨o,es,ep,h1,h2,_⟩:=p;exact fC yM I.kIn ⟨o,h1,h2.1⟩ e (λz=>nomatch z) h
 |@dT a fm ea=>cases(show u=cJ.ref a from rx);obtain⟨_,_,xs,_,o,es,ep,h1,h2,_⟩:=(show hV X.prog X.w H s.heap a (.dT fm)from I.hok a _ ea);exact fC yM I.kIn ⟨o,h1,h2.1⟩ e (λz=>nomatch z) h
 |@ins a KK dx fs ea cl ha hn NW hm=>cases(show u=cJ.ref a from rx);obtain⟨mA,S',_⟩:=IW I.hok ea;obtain⟨od,U',_⟩:=S'.look;exact fC (PySem.W.kitx_own (cl.get _) cl.hd ha hn NW hm) I.kIn U' e (λz=>nomatch z) h
end
structure gu (k:Nat)(A:d6):Prop where
 hd:A.handled=G
 dp:A.depth+3*k+5<recursionLimit
 un:A.units+16*k+200<lS
 gd:A.guards=U []
theorem gu.mono {k:Nat}{A:d6}(r:gu k A)(h:j<=k):gu j A:=⟨r.hd,by have:=r.dp;lia,by have:=r.un;lia,r.gd⟩
theorem gu.deeper {k:Nat}{A:d6}(r:gu (k+1) A)(env:Env):gu k (A.deeper env) :=
 ⟨r.hd,by have:=r.dp;show A.depth+1+3*k+5<_;lia,by have:=r.un;show A.units+3+16*k+200<_;lia,r.gd⟩
theorem X5 {A:d6}:(A.under<|.builtin "type.__call__" ⟨.ref KK::us,kw⟩).depth=A.depth+1:=by first|rfl|simp[d6.under,wJ.weight,wJ.isCreation,wJ.isGuard,wJ.isCaller,wJ.frames,wJ.isFrame,guardIds]
theorem X6 {A:d6}:(A.under<|.builtin "type.__call__" ⟨.ref KK::us,kw⟩).units=A.units+1:=by first|rfl|simp[d6.under,wJ.cUnits,wJ.frames,wJ.isFrame]
theorem Xm {A:d6}:(A.under<|.builtin "type.__call__" ⟨.ref KK::us,kw⟩).guards=A.guards:=by first|rfl|simp[d6.under,wJ.guards,wJ.isGuard,guardIds,pushGuards]
theorem gu.make {k:Nat}{A:d6}(r:gu (k+1) A)(KK:cN)(us:List cJ)(kw:List<|Str×cJ):gu k (A.under<|.builtin "type.__call__" ⟨.ref KK::us,kw⟩) :=
 ⟨r.hd,by have:=r.dp;rw[X5];lia,by have:=r.un;rw[X6];lia,by rw[Xm];exact r.gd⟩
theorem gu.depth {k:Nat}{A:d6}(r:gu k A):A.depth<recursionLimit:=by have:=r.dp;lia
theorem gu.units {k:Nat}{A:d6}(r:gu k A):A.units+64<lS:=by have:=r.un;lia
def CW:TA:=λ_ H Q=>Q [] H
def DJ (ta:TE)(tr:TA):TA:=λZ H Q=>ta Z H λx H1=>tr Z H1 λxs H2=>Q (x::xs) H2
section
variable {t:TA}
theorem xx:PA X [] CW:=λ_ _ _ _ H Q I h=>Calls.spliced_nil ⟨[],H,I,.nil,h⟩
theorem ye (ha:PE X e te)(hr:PA X es t)(hs:SE X e es:=by rfl):PA X (e::es) (DJ te t):=by intro pos cM s Z H Q I h;rw[hs];show dg _ _ (spliced ((Ã,eW e X.env)::i8 pos (dJ es X.env))) _ _ s;refine Calls.spliced_cons<|gc (ha cM s Z H _ I h) λu s1 gR=>?_;obtain⟨x,H1,I1,r1,q1⟩:=gR;exact gc (hr pos cM s1 Z H1 _ I1 q1) λus s2 ⟨xs,H2,I2,r2,q2⟩=>⟨x::xs,H2,I2,.cons r1 r2,q2⟩
def LD (t:TA):TE:=λZ H Q=>t Z H λxs H1=>xs.length<=sizeLine/\∀p,H1 p=G->Q (.ref p) (upd H1 p<|.tup xs)
def Ly (t:TA):TE:=λZ H Q=>t Z H λxs H1=>xs.length<=sizeLine/\∀p,H1 p=G->Q (.ref p) (upd H1 p<|.lst xs)
theorem MR {x1}(h:PA X es t):PE X (.Tuple es x1 pos) (LD t):=by intro cM s Z H Q I hq;refine wpAny_Tuple_spliced (gc (h pos cM s Z H _ I hq) λus s1 ⟨xs,H1,I1,r,z,q⟩=>⟨by rw[←r.length];exact z,?_⟩);have hf:H1 s1.heap.objs.size=G:=I1.hok.fresh<|di _;refine⟨.ref s1.heap.objs.size,upd H1 s1.heap.objs.size<|.tup xs,I1.laid (t':=s1.toks) (λb u e=>cS _ e) (di _) ?_,rfl,q _ hf⟩;exact⟨z,us,r,⟨_,dq _ rfl,rfl,_,rfl⟩⟩
theorem ϟ (h:PA X es t):PE X (.List es pos) (Ly t):=by intro cM s Z H Q I hq;refine wpAny_List_spliced (gc (h pos cM s Z H _ I hq) λus s1 ⟨xs,H1,I1,r,z,q⟩=>⟨by rw[←r.length];exact z,?_⟩);have hf:H1 s1.heap.objs.size=G:=I1.hok.fresh<|di _;refine⟨.ref s1.heap.objs.size,upd H1 s1.heap.objs.size<|.lst xs,I1.laid (t':=s1.toks) (λb u e=>cS _ e) (di _) ?_,rfl,q _ hf⟩;exact⟨z,us,0,r,dq _ rfl⟩
end
abbrev Sp:=List V->Hp->VK->XK->Prop
abbrev Cj:=List Env->Hp->cU->XK->cJ->cU->Prop
structure yP (P:eL)(w:d8)(K:cL)(mg:Str->Option cJ)(base:c7)(A:d6)(outer:List Env)(s:cU)(H:Hp):Prop where
 frames:A.frames=U outer
 mod:Mod K mg base
 bs:∀b o,base.get? b=U o->s.heap.get? b=U o/\H b=G
 bsz:base.objs.size<=s.heap.objs.size
 funs:s.heap.FunFrames base outer
 frf:∀b∈Br outer,H b=G
 hok:rn P w H s.heap
 bare:AllBare s.gens
def CE (outer:List Env)(P:eL)(w:d8)(H:Hp)(s:cU)(Q:VK)(u:cJ)(s':cU):Prop :=
 ∃v H',s'.os=s.os/\AllBare s'.gens/\Un (Br outer) [] H H' s.heap s'.heap/\rn P w H' s'.heap/\Ì v u/\Q v H'
def CR (CX:Cj)(outer:List Env)(P:eL)(w:d8)(H:Hp)(s:cU)(Q:VK)(E:XK)(r:Result)(s':cU):Prop :=
 match r with
 |.ok (.ret u)=>CE outer P w H s Q u s'
 |.ok _=>False
 |.error e=>CX outer H s E e s'
structure dR (P:eL)(w:d8)(K:cL)(mg:Str->Option cJ)(base:c7)(CX:Cj)(k:Nat)(f:cN)(fd:cT)(ps:List Str)(sp:Sp):Prop where
 len:∀vs H Q E,sp vs H Q E->vs.length=ps.length
 run:∀(A:d6) (outer:List Env) (s:cU) (H:Hp) (args:Args) (us:List cJ) (vs:List V) (Q:VK) (E:XK),gu k A->yP P w K mg base A outer s H->uF s fd args (ps.zip us)->ez vs us->sp vs H Q E ->
  lx (dz P w) A (.call (.ref f) args) (CR CX outer P w H s Q E) s
theorem yP.make {w:d8}{K:cL}{mg:Str->Option cJ}{base:c7}{A:d6}{outer:List Env}(e:yP P w K mg base A outer s H)(KK:cN)(us:List cJ)(kw:List<|Str×cJ) :
  yP P w K mg base (A.under<|.builtin "type.__call__" ⟨.ref KK::us,kw⟩) outer s H:=⟨by first|exact e.frames|(simpa[d6.under,wJ.envs,wJ.isFrame,pushEnvs]using e.frames),e.mod,e.bs,e.bsz,e.funs,e.frf,e.hok,e.bare⟩
theorem Ê.env0 (I:Ê X cM Z H s):yP X.prog X.w X.K X.mg X.base X.A X.stack s H :=
 ⟨I.ok.frames,I.ok.mod,I.bs,eQ I.ok.bsz I.sz,I.stack,I.stkFree,I.hok,I.bare⟩
theorem Ê.after {Q:VK}(I:Ê X cM Z H s)(h:CE X.stack X.prog X.w H s Q u s'):EP X cM Z Q u s':=by obtain⟨v,H',os,bare,un,hok,r,q⟩:=h;obtain⟨hh,g,d,t,UL⟩:=s';obtain rfl:UL=s.os:=os;exact⟨v,H',I.call (h':=hh) (g':=g) (d':=d) (t':=t) (ch:=[]) un hok bare<|λb z=>absurd z<|by simp,r,q⟩
def DI (sp:Sp)(nP:List V)(E:XK)(t:TA):TE:=λZ H Q=>t Z H λvs H1=>sp (vs++nP) H1 Q E
def DN (KK:cN)(m:Str)(sp:Sp)(nP:List V)(E:XK)(ta:TE)(t:TA):TE:=λZ H Q=>ta Z H λx H1=>∃a dx fs,x=.ref a/\H1 a=U (.ins KK dx fs)/\fs.lookup m=G /\
 t Z H1 λvs H2=>sp (x::(vs++nP)) H2 Q E
def DM (KK:cN)(sp:Sp)(nP:List V)(E:XK)(t:TA):TE:=λZ H Q=>t Z H λvs H1=>∀x dx,H1 x=G->H1 dx=G->dx≠x ->
 sp (.ref x::(vs++nP)) (upd (upd H1 dx<|.own x) x<|.ins KK dx []) (λv H2=>v=.non/\Q (.ref x) H2) E
def gM (K:cL)(fd:cT)(ps:List Str)(O:List cJ):Prop :=
 ∀(s:cU) (us:List cJ),K.In s.heap->(us++O).length=ps.length->uF s fd ⟨us,[]⟩ (ps.zip<|us++O)
variable {fd:cT}{ps:List Str}
theorem gM.all {K:cL}(h:∀us:List cJ,us.length=ps.length->bindArgs fd ⟨us,[]⟩=pure (ps.zip us)):gM K fd ps []:=λs us _ hl=>by rw[dU]at hl ⊢;exact .of_eq<|h us hl
def nz (CX:Cj)(X:Cx)(E:XK):Prop:=∀(cM:List<|cN×gz) (Z:St) (H:Hp) (s:cU) (e:cJ) (s':cU),Ê X cM Z H s->CX X.stack H s E e s'->X.xe e s'
variable {CX:Cj}{O:List cJ}{nP:List V}{sp:Sp}
section
variable {k:Nat}{E:XK}{t:TA}
theorem HC {Q:VK}{vs:List V}(F:dR X.prog X.w X.K X.mg X.base CX k f fd ps sp)(hr:gu k X.A)(hb:gM X.K fd ps O)(hd:ez nP O)(hx:nz CX X E)
  (I:Ê X cM Z H s) (r:ez vs us) (h:sp (vs++nP) H Q E):dg (dz X.prog X.w) X.A (call (.ref f) us) (EP X cM Z Q) X.xe s:=by
 have r2:ez (vs++nP) (us++O):=r.append hd;have hl:(us++O).length=ps.length:=by rw[←r2.length];exact F.len _ _ _ _ h
 refine wpAny_call<|uH (F.run X.A X.stack s H ⟨us,[]⟩ (us++O) (vs++nP) Q E hr I.env0 (hb s us I.kIn hl) r2 h) λr s' hq=>?_;cases r with
 |error e=>exact hx cM Z H s e s' I hq
 |ok fl=>
  cases fl with
  |ret u=>exact I.after hq
  |next=>exact False.elim hq
  |brk=>exact False.elim hq
  |cont=>exact False.elim hq
theorem Mz (F:dR X.prog X.w X.K X.mg X.base CX k f fd ps sp)(hr:gu k X.A)(hg:Gl X x)(hm:X.mg x=U (.ref f))(hk:fU X.K (.ref f)=Â)(hb:gM X.K fd ps O)(hd:ez nP O)(hx:nz CX X E)
  (ha:PA X (e::es) t) (oV:kW x:=by decide) (he:SE X e es:=by rfl) (lW:pW X pos es:=by rfl) :
  PE X (.Call (.Name x p) (e::es) [] pos) (DI sp nP E t):=by
 intro cM s Z H Q I h;refine fR<|vf I hg hm ?_ oV;refine ky (h₀:=X.base) I.ok.mod.kin hk (gc (ha pos cM s Z H _ I h) λus s1 ⟨vs,H1,I1,r,q⟩=>⟨I1.kIn,?_⟩) he lW;exact HC F hr hb hd hx I1 r q
theorem Qw (he:PE X o ta)(c:nY X.K KK)(hm:yR X.K KK m f)(F:dR X.prog X.w X.K X.mg X.base CX k f fd ps sp)(hr:gu k X.A)(hb:gM X.K fd ps O)(hd:ez nP O)(hx:nz CX X E)(ha:PA X (e::es) t)
  (lE:SE X e es:=by rfl) (lW:pW X pos es:=by rfl)
  (ht:eW (.Call (.Attribute o m fL) (e::es) [] pos) X.env=(do
   let ov ← eW o X.env
   kN fL.atName
   let(f,first) ← ir [ov] (lD ov m pl)
   mS pos f first (i8 pos<|dJ (e::es) X.env) (i9 pos<|fY [] X.env)):=by rfl) :
  PE X (.Call (.Attribute o m fL) (e::es) [] pos) (DN KK m sp nP E ta t):=by
 intro cM s Z H Q I h;refine lz (pl:=pl) (gc (he cM s Z H _ I h) λu s1 hq=>?_) ht;obtain⟨x,H1,I1,rx,a,dx,fs,ex,ea,l,q⟩:=hq;subst ex;obtain rfl:u=cJ.ref a:=rx;refine ju I1 ea c hm l ?_;refine ky (first:=[.ref a]) (h₀:=X.base) I.ok.mod.kin hm.kp (gc (ha pos cM s1 Z H1 _ I1 q) λus s2 ⟨vs,H2,I2,r,q2⟩=>⟨I2.kIn,?_⟩) lE lW;exact HC (us:=.ref a::us) (vs:=.ref a::vs) F hr hb hd hx I2 (.cons rfl r) q2
theorem Zz (he:PE X o ta)(c:nY X.K KK)(hm:yR X.K KK m f)(F:dR X.prog X.w X.K X.mg X.base CX k f fd ps sp)(hr:gu k X.A)(hb:gM X.K fd ps O)(hd:ez nP O)(hx:nz CX X E)
  (ht:eW (.Call (.Attribute o m fL) [] [] pos) X.env=(do
   let ov ← eW o X.env
   kN fL.atName
   let(f,first) ← ir [ov] (lD ov m pl)
   mS pos f first (i8 pos<|dJ [] X.env) (i9 pos<|fY [] X.env)):=by rfl) :
  PE X (.Call (.Attribute o m fL) [] [] pos) (DN KK m sp nP E ta CW):=by
 intro cM s Z H Q I h;refine lz (pl:=pl) (gc (he cM s Z H _ I h) λu s1 hq=>?_) ht;obtain⟨x,H1,I1,rx,a,dx,fs,ex,ea,l,q⟩:=hq;subst ex;obtain rfl:u=cJ.ref a:=rx;refine ju I1 ea c hm l ?_;exact xC (first:=[.ref a]) I1.kIn hm.kp<|HC (us:=[.ref a]) (vs:=[.ref a]) F hr hb hd hx I1 (.cons rfl .nil) q
structure Mk (K:cL)(KK f:cN):Prop where
 makes:sR K KK=Â
 init:fT K (.ref KK) "__init__"=U (U<|.ref f)
 fn:vD K (.ref f)=Â
 kp:fU K (.ref KK)=Â
theorem PP {Q:VK}{vs:List V}(L':Mk X.K KK f)(F:dR X.prog X.w X.K X.mg X.base CX k f fd ps sp)(hr:gu (k+1) X.A)(hb:gM X.K fd ps O)(hd:ez nP O)
  (hx:nz CX X E) (I:Ê X cM Z H s) (r:ez vs us)
  (h:∀x dx,H x=G->H dx=G->dx≠x->sp (.ref x::(vs++nP)) (upd (upd H dx<|.own x) x<|.ins KK dx []) (λv H2=>v=.non/\Q (.ref x) H2) E) :
  dg (dz X.prog X.w) X.A (call (.ref KK) us) (EP X cM Z Q) X.xe s:=by
 have hq:=h (s.heap.objs.size+1) s.heap.objs.size (I.hok.fresh<|l7 _) (I.hok.fresh<|di _)<|dB<|oy _;have I2:=Ê.made (KK:=KK) I;have r2:ez (V.ref (s.heap.objs.size+1)::(vs++nP)) (cJ.ref (s.heap.objs.size+1)::(us++O)):=.cons rfl<|r.append hd;have hl:(cJ.ref (s.heap.objs.size+1)::us++O).length=ps.length:=by have e:=r2.length;rw[F.len _ _ _ _ hq]at e;exact e.symm
 refine wpAny_call<|Zy (f:=f) I.kIn L'.makes L'.init (beq_iff_eq.mp L'.fn)<|uH (F.run _ X.stack _ _ ⟨cJ.ref (s.heap.objs.size+1)::us,[]⟩ (cJ.ref (s.heap.objs.size+1)::(us++O)) _ _ E (hr.make KK us [])
  (I2.env0.make KK us []) (hb _ (cJ.ref (s.heap.objs.size+1)::us) I2.kIn hl) r2 hq) λr s' yG=>?_
 cases r with
 |error e=>exact hx cM Z _ _ e s' I2 yG
 |ok fl=>
  cases fl with
  |ret u=>obtain⟨v,H',I3,rv,ev,q3⟩:=I2.after yG;subst ev;exact⟨rv,⟨V.ref<|s.heap.objs.size+1,H',I3,rfl,q3⟩⟩
  |next=>exact False.elim yG
  |brk=>exact False.elim yG
  |cont=>exact False.elim yG
theorem ztg (L':Mk X.K KK f)(F:dR X.prog X.w X.K X.mg X.base CX k f fd ps sp)(hr:gu (k+1) X.A)(hg:Gl X x)(hm:X.mg x=U (.ref KK))(hb:gM X.K fd ps O)(hd:ez nP O)(hx:nz CX X E)
  (ha:PA X (e::es) t) (oV:kW x:=by decide) (he:SE X e es:=by rfl) (lW:pW X pos es:=by rfl) :
  PE X (.Call (.Name x p) (e::es) [] pos) (DM KK sp nP E t):=by
 intro cM s Z H Q I h;refine fR<|vf I hg hm ?_ oV;refine ky (h₀:=X.base) I.ok.mod.kin L'.kp (gc (ha pos cM s Z H _ I h) λus s1 ⟨vs,H1,I1,r,q⟩=>⟨I1.kIn,?_⟩) he lW;exact PP L' F hr hb hd hx I1 r q
theorem ZA (L':Mk X.K KK f)(F:dR X.prog X.w X.K X.mg X.base CX k f fd ps sp)(hr:gu (k+1) X.A)(hg:Gl X x)(hm:X.mg x=U (.ref KK))(hb:gM X.K fd ps O)(hd:ez nP O)(hx:nz CX X E)
  (oV:kW x:=by decide):PE X (.Call (.Name x p) [] [] pos) (DM KK sp nP E CW):=by
 intro cM s Z H Q I h;refine fR<|vf I hg hm ?_ oV;exact xC I.kIn L'.kp<|PP (us:=[]) L' F hr hb hd hx I .nil h
end
def PK (X:Cx)(kws:List sm)(t:TA):Prop :=
 ∀(pos:mR) (cM:List<|cN×gz) (s:cU) (Z:St) (H:Hp) (Q:List V->Hp->Prop),Ê X cM Z H s->t Z H Q->dg (dz X.prog X.w) X.A (evalAll<|(i9 pos<|fY kws X.env).map (·.2)) (AP X cM Z Q) X.xe s
section
variable {k:Nat}{ks:List Str}{E:XK}{GG:mR}{kws:List sm}{t tk:TA}{nm:Option Str}
theorem Ϟ:PK X [] CW:=λ_ _ _ _ H Q I h=>wpAny_evalAll_nil ⟨[],H,I,.nil,h⟩
theorem zth (ha:PE X e te)(hr:PK X kws t):PK X (⟨nm,e,GG⟩::kws) (DJ te t):=by intro pos cM s Z H Q I h;show dg _ _ (evalAll ((do let v ← eW e X.env;kN pos;pure v)::(i9 pos<|fY kws X.env).map (·.2))) _ _ s;refine wpAny_evalAll_cons<|cO<|gc (ha cM s Z H _ I h) λu s1 ⟨x,H1,I1,r1,q1⟩=>cO<|o9<|dw ?_;exact gc (hr pos cM s1 Z H1 _ I1 q1) λus s2 ⟨xs,H2,I2,r2,q2⟩=>⟨x::xs,H2,I2,.cons r1 r2,q2⟩
variable {g:List cJ->List cJ->List cJ}{gV:List V->List V->List V}
end
structure gq (N P:List Str)(sc:rY):Prop where
 kind:sc.kind=.function
 co:sc.isCoroutine=Ã
 gen:sc.isGenerator=Ã
 nd:N.Nodup
 pre:N.take P.length=P
 par:∀x∈P,sc.names.lookup x=U .local\/sc.names.lookup x=U .cell
 nofree:∀y∈sc.names,y.2≠.free
variable {kindOf:Str->Option dI}
theorem Pc {kindOf:Str->Option dI}{x:Str}:∀{binds:List (Str×cJ)} {m:Str->Option cJ},(∀v,(x,v)∉binds)->Ay kindOf binds m x=m x
 |[],_,_=>rfl
 |(n,v)::r,m,h=>by
  unfold Ay;rw[Pc λw hw=>h w<|cQ _ hw];split
  ·have:x≠n:=by rintro rfl;exact h v cK
   simp[this]
  ·rfl
theorem Pd {kindOf:Str->Option dI}{x:Str}:∀{binds:List (Str×cJ)} {m:Str->Option cJ},(∀v,(x,v)∉binds)->Ax kindOf binds m x=m x
 |[],_,_=>rfl
 |(n,v)::r,m,h=>by
  unfold Ax;rw[Pd λw hw=>h w<|cQ _ hw];split
  ·rfl
  ·have:x≠n:=by rintro rfl;exact h v cK
   simp[this]
theorem Pe {kindOf:Str->Option dI}{x:Str}{v:cJ}:∀{P:List Str} {vs:List cJ} {i:Nat} {m:Str->Option cJ},P.Nodup->P[i]?=U x->vs[i]?=U v->kindOf x=U .local ->
  Ay kindOf (P.zip vs) m x=U v
 |[],_,_,_,_,h,_,_=>by simp at h
 |_::_,[],_,_,_,_,h,_=>by simp at h
 |p::P,w::vs,0,m,nd,h1,h2,hk=>by simp at h1 h2;subst h1;subst h2;show Ay kindOf ((p,w)::P.zip vs) m p=_;unfold Ay;rw[Pc λv hv=>(dO.mp nd).1 (o7 hv).1,if_pos hk];simp
 |p::P,w::vs,i+1,m,nd,h1,h2,hk=>by show Ay kindOf ((p,w)::P.zip vs) m x=_;unfold Ay;exact Pe (i:=i) (dO.mp nd).2 (by simpa using h1) (by simpa using h2) hk
theorem Pf {kindOf:Str->Option dI}{x:Str}{v:cJ}:∀{P:List Str} {vs:List cJ} {i:Nat} {m:Str->Option cJ},P.Nodup->P[i]?=U x->vs[i]?=U v->kindOf x≠U .local ->
  Ax kindOf (P.zip vs) m x=U v
 |[],_,_,_,_,h,_,_=>by simp at h
 |_::_,[],_,_,_,_,h,_=>by simp at h
 |p::P,w::vs,0,m,nd,h1,h2,hk=>by simp at h1 h2;subst h1;subst h2;show Ax kindOf ((p,w)::P.zip vs) m p=_;unfold Ax;rw[Pd λv hv=>(dO.mp nd).1 (o7 hv).1,if_neg hk];simp
 |p::P,w::vs,i+1,m,nd,h1,h2,hk=>by show Ax kindOf ((p,w)::P.zip vs) m x=_;unfold Ax;exact Pf (i:=i) (dO.mp nd).2 (by simpa using h1) (by simpa using h2) hk
def start (N:List Str)(vs:List V):St:=vs.map U++cY (N.length-vs.length) G
def tU (CX:Cj)(P:eL)(w:d8)(K:cL)(mg:Str->Option cJ)(base:c7)(N:List Str)(qual:Str)(scope:rY)(f:cN)(cd:cJ)(A:d6)(outer:List Env)(s:cU)(H:Hp)(E:XK):Cx where
 prog:=P
 w:=w
 K:=K
 mg:=mg
 base:=base
 A:=A.deeper<|envOfC qual scope s.heap.objs.size f cd
 N:=N
 s₀:=s
 H₀:=H
 env:=envOfC qual scope s.heap.objs.size f cd
 outer:=outer
 stack:=envOfC qual scope s.heap.objs.size f cd::outer
 ex:=[]
 calm:=true
 fn:=λ_=>Â
 pn:=[]
 xe:=λe s'=>dg (dz P w) (A.deeper<|envOfC qual scope s.heap.objs.size f cd) (leaving (envOfC qual scope s.heap.objs.size f cd) e) (λ_ s''=>CX outer H s E e s'') (λe' s''=>CX outer H s E e' s'') s'
theorem PQ {sc:rY}{n:Nat}(h:sc.names.lookup x=U .cell):∃c,(cellsFrom n sc.names []).lookup x=U c:=by have q:=nW sc.names n []<|.inl h;exact uO.mp q
variable {qual:Str}{scope:rY}
theorem YI {w:d8}{K:cL}{mg:Str->Option cJ}{base:c7}{N:List Str}{cd:cJ}{A:d6}{outer:List Env}{s1:cU}{E:XK}{vs:List V}
  (W':gq N ps scope) (hd:A.handled=G) (e0:yP P w K mg base A outer s H) (hl:vs.length=ps.length) (r:ez vs us)
  (x:InCallC s s.heap.objs.size (Ay (envOfC qual scope s.heap.objs.size f cd).kindOf (ps.zip us) λ_=>G) (cellsFrom (s.heap.objs.size+1) scope.names []) (Ax (envOfC qual scope s.heap.objs.size f cd).kindOf (ps.zip us) λ_=>G) s1) :
  Ê (tU CX P w K mg base N qual scope f cd A outer s H E) [] (start N vs) H s1:=by
 have lW:ps.length<=N.length:=by have:=congrArg yL W'.pre;rw[kb]at this;lia
 obtain⟨h1,tk,rfl,hk⟩:=x.done;have GS:∀b:cN,b∉(tU CX P w K mg base N qual scope f cd A outer s H E).ex:=λb z=>absurd (show b∈([]:List cN)from z) (by simp);refine⟨⟨e0.mod,W'.kind,rfl,rfl,di _,λy z c h1 h2=>?_,λy hy=>?_,λy c _ h=>?_,λ_=>hd,d6.frames_deeper e0.frames,.inr ⟨rfl,rfl⟩,λb z=>absurd z<|GS b,e0.bs,e0.bsz,λb _ _=>GS b,λb z=>absurd z<|GS b,e0.funs,e0.frf⟩,
  rfl,e0.bare,Un.kept hk,⟨_,x.toInCall.ns,λi y v h1 h2 h3=>?_⟩,λy c h=>⟨_,x.cell y c h⟩,e0.hok.fresh<|di _,λy c h=>?_,λp hp=>absurd (show p∈([]:List (cN×gz))from hp)<|by simp,e0.hok.kept hk,?_⟩
 ·exact name_of_addr x.apart (PySem.mem_of_lookup h1)<|PySem.mem_of_lookup h2
 ·have hy:scope.names.lookup y=U .cell\/scope.names.lookup y=U .free:=hy;rcases hy with hy|hy
  ·exact PQ hy
  ·exact absurd rfl<|W'.nofree _<|PySem.mem_of_lookup hy
 ·exact sN<|x.above y c<|PySem.mem_of_lookup h
 ·have hi:i<vs.length:=by
   unfold start at h2;by_cases hi:i<vs.length
   ·exact hi
   ·rw[fZ<|by simpa using hi]at h2;rw[n6]at h2
    split at h2<;>cases h2
  have ha:vs[i]?=U v:=by
   unfold start at h2;rw[ga<|by simpa using hi,eU]at h2;cases e:vs[i]? with
   |none=>rw[e]at h2;cases h2
   |some a=>rw[e]at h2;cases h2;rfl
  obtain⟨u,hu,rv⟩:=r.get ha;have hp:ps[i]?=U y:=by rw[←W'.pre,kK<|by lia];exact h1
  have N4:ps.Nodup:=by rw[←W'.pre];exact W'.nd.sublist<|List.take_sublist _ _
  refine⟨u,rv,?_⟩;rcases W'.par y (iq hp)with k|k
  ·exact .inl ⟨k,Pe N4 hp hu k⟩
  ·obtain⟨c,e⟩:=PQ (n:=s.heap.objs.size+1) k;refine .inr ⟨.inl k,c,e,?_⟩;have q:=x.cell y c e;rw[Pf N4 hp hu<|by show scope.names.lookup y≠_;rw[k];decide]at q;exact q
 ·exact e0.hok.fresh<|sN<|x.above y c<|PySem.mem_of_lookup h
 ·unfold start;show _=N.length;rw[ee,dr,gU];lia
theorem Ķ {w:d8}{K:cL}{mg:Str->Option cJ}{base:c7}{k:Nat}{params:Arguments}{dV kV doc pm kO J oc:cJ}{an od:Option cN}
    {CO:Array (Option cJ)} {N:List Str} (lk:K.lookup f=U ⟨oc,od,.func<|nX name qual params body scope dV kV doc pm an kO J,CO⟩) (kT:tN K kO qual=Â) (W':gq N ps scope)
    (len:∀vs H Q E,sp vs H Q E->vs.length=ps.length)
    (Bt:∀(A:d6) (outer:List Env) (s:cU) (H:Hp) (vs:List V) (Q:VK) (E:XK),gu k (A.deeper<|envOfC qual scope s.heap.objs.size f kO)->sp vs H Q E ->
      ∃t,yU (tU CX P w K mg base N qual scope f kO A outer s H E) body t/\t { nx:=λ_ H'=>Q .non H',rt:=Q } (start N vs) H) :
    dR P w K mg base CX (k+1) f (nX name qual params body scope dV kV doc pm an kO J) ps sp:=by
  refine⟨len,λA outer s H args us vs Q E hr e0 hb r Dx=>?_⟩;have hl:=len _ _ _ _ Dx;have KX:K.In s.heap:=e0.mod.kin.keeps λb o e=>(e0.bs b o e).1;have lim:s.heap.NoLimit:=e0.mod.nolimit.keeps λb o e=>(e0.bs b o e).1;have Gq:∀y∈ps.zip us,scope.names.lookup y.1=U .local\/(scope.names.lookup y.1=U .cell/\((cellsFrom (s.heap.objs.size+1) scope.names []).lookup y.1).isSome=Â):=λ⟨n,v⟩ hy=>by
    rcases W'.par n (o7 hy).1 with q|q
    · exact .inl q
    · exact .inr ⟨q,nW _ _ _<|.inl q⟩
  refine codeAny_call_function hr.depth (KX _ _ lk) rfl W'.co W'.gen rfl (PySem.W.codeRec_of KX kT)<|hb _ _ _ _ ?_;refine wpAny_newFunctionEnv_cells W'.kind Gq λenv he s1 x=>?_;subst he;refine⟨lim.keeps x.toInCall.keep,codeAny_func ?_⟩;obtain⟨t,ht,hq⟩:=Bt A outer s H vs Q E (hr.deeper _) Dx;have I:Ê (tU CX P w K mg base N qual scope f kO A outer s H E) [] (start N vs) H s1:=YI W' hr.hd e0 hl r x;refine gb (ht [] s1 (start N vs) H _ I hq) (λfl s' hs=>?_) λe s' hs=>hs;have fin:∀{σ':St} {H':Hp} {v:V} {u:cJ},Ê (tU CX P w K mg base N qual scope f kO A outer s H E) [] σ' H' s'->Ì v u->Q v H'->CE outer P w H s Q u s' :=
    λ{σ' H' v u} U' rv q=>⟨v,H',U'.os,U'.bare,U'.base,U'.hok,rv,q⟩
  cases fl with
  |ret u=>obtain⟨v,σ',H',U',rv,q⟩:=hs;exact fin U' rv q
  |next=>obtain⟨σ',H',U',q⟩:=hs;exact fin (v:=V.non) (u:=cJ.none) U' rfl q
  |brk=>obtain⟨_,_,_,q⟩:=hs;exact False.elim q
  |cont=>obtain⟨_,_,_,q⟩:=hs;exact False.elim q
variable {T:String}
section
variable {t:TA}{id:String}{r:List V->Hp->VK->Prop}
def Om (r:List V->Hp->VK->Prop)(t:TA):TE:=λZ H Q=>t Z H λvs H1=>r vs H1 Q
theorem L8 (hc:jK X (.builtin id) r)(hg:Gl X x)(hm:X.mg x=G)(hv:eP x=U (.builtin id))(ha:PA X (e::es) t)(hn:x≠"__name__":=by decide)(oV:kW x:=by decide)
  (he:SE X e es:=by rfl) (lW:pW X pos es:=by rfl):PE X (.Call (.Name x p) (e::es) [] pos) (Om r t):=by
 intro cM s Z H Q I h;refine fR<|vd I hg hm hv ?_ hn oV;exact PyProof.Rows.callWith_builtin1 (gc (ha pos cM s Z H _ I h) λus s1 ⟨vs,H1,I1,r1,q1⟩=>hc cM s1 Z H1 vs us Q I1 r1 q1) he lW
theorem Pg (hc:jK X (.type T) r)(hg:Gl X x)(hm:X.mg x=G)(hv:eP x=U (.type T))(ha:PA X (e::es) t)(hn:x≠"__name__":=by decide)(oV:kW x:=by decide)
  (he:SE X e es:=by rfl) (lW:pW X pos es:=by rfl):PE X (.Call (.Name x p) (e::es) [] pos) (Om r t):=by
 intro cM s Z H Q I h;refine fR<|vd I hg hm hv ?_ hn oV;exact eJ (gc (ha pos cM s Z H _ I h) λus s1 ⟨vs,H1,I1,r1,q1⟩=>hc cM s1 Z H1 vs us Q I1 r1 q1) he lW
end
end L2
namespace HT
open PySem PyProof.Rows
open PySem.SeqAt
open PySem.AutoSeq1 (wpAny_loadPart')
open PySem.MeetsSeq PySem.MeetsSeq2 PySem.MeetsSeq3
section
variable {prog:eL}{w:d8}{A:d6}{E:cJ->cU->Prop}{s:cU}
theorem cat_tup {t b:cN}{vs ws:List cJ}{Q:cJ->cU->Prop}(ht:IsTup s.heap t vs.toArray)(hb:IsTup s.heap b ws.toArray)(hv:vs≠[])
    (h1:ws=[]->Q (.ref t) s) (h2:ws≠[]->Q (.ref s.heap.objs.size) { s with heap:=s.heap.push { cls:=.type "tuple",data:=.seq (vs++ws).toArray } })
    (hsz:vs.length+ws.length<=sizeLine):dg (dz prog w) A (ik .Add (.ref t)<|.ref b) Q E s:=by
  obtain⟨⟨cls,dd,data,sl⟩,ho,hc,n,hd⟩:=id ht;obtain⟨⟨JM,HL,data2,BP⟩,Ec,Fb,n2,hd2⟩:=id hb;simp only at hc hd Fb hd2;subst hc hd Fb hd2;have e:vs.toArray++ws.toArray=(vs++ws).toArray:=by simp
  by_cases hw:ws=[]
  · exact AX ⟨_,ho,rfl⟩ ⟨_,Ec,rfl⟩ noFill_tuple_add seq_tuple_add PySem.F.slot_tuple_add PySem.F.entry_tuple_add (PySem.F.args_tuple_add_2 _ _)
      (tuple_addW1 t b vs.toArray ws.toArray n n2 dd HL sl BP (by simpa using hv)<|by simp[hw]) ⟨ho,Ec,h1 hw⟩
  · refine AX ⟨_,ho,rfl⟩ ⟨_,Ec,rfl⟩ noFill_tuple_add seq_tuple_add PySem.F.slot_tuple_add PySem.F.entry_tuple_add (PySem.F.args_tuple_add_2 _ _)
      (tuple_addW2 t b vs.toArray ws.toArray n n2 dd HL sl BP (by simpa using hv) (by simpa using hw)<|by rw[de,de];exact hsz) ⟨ho,Ec,?_⟩
    rw[e];exact h2 hw
noncomputable def sIx (n d:Nat):Option Int->Nat
 |none=>d
 |some v=>if v<0 then(v+(n:Int)).toNat else min v.toNat n
theorem sIx_none (n d:Nat):sIx n d G=d:=rfl
theorem sIx_nat (n d k:Nat):sIx n d (U (k:Int))=min k n:=by show(if(k:Int)<0 then((k:Int)+n).toNat else min (k:Int).toNat n)=min k n;rw[if_neg<|by lia,fK]
end
end HT
namespace L2
open PySem PySem.Spec PyProof.Rows
abbrev TO:=St->Hp->(Option Int->Hp->Prop)->Prop
def PO (X:Cx)(e:Option Expr)(t:TO):Prop :=
 ∀(cM:List<|cN×gz) (s:cU) (Z:St) (H:Hp) (Q:Option Int->Hp->Prop),Ê X cM Z H s->t Z H Q ->
  dg (dz X.prog X.w) X.A (evalPart e X.env) (λu s'=>∃o H',Ê X cM Z H' s'/\IsPart u o/\Q o H') X.xe s
def CY:TO:=λ_ H Q=>Q G H
def Hk (t:TE):TO:=λZ H Q=>t Z H λx H1=>∃i,x=.int i/\Q (U i) H1
theorem X7 {ns:List Int}:∀{us:List cJ},ez (ns.map V.int) us->IntsAre us ns:=by
 induction ns with
 |nil=>intro us r;rw[si]at r;cases r;exact .nil
 |cons n ns ih=>
  intro us r;rw[dC]at r;cases r with
  |cons r1 r2=>obtain⟨t,e⟩:=r1;subst e;exact .cons n t<|ih r2
variable {X:Cx}{e:Expr}{p2 pos:mR}{te:TE}{us:List cJ}{xs:List V}
section
variable {lo hi:Option Expr}{tl th:TO}
theorem zti:PO X G CY:=by intro cM s Z H Q I h;rw[evalPart_none];exact dw ⟨G,H,I,.none,h⟩
theorem ztj (h:PE X e te):PO X (U e) (Hk te):=by intro cM s Z H Q I hw;rw[evalPart_some];refine gc (h cM s Z H _ I hw) λu s1 gR=>?_;obtain⟨x,H1,I1,r1,q1⟩:=gR;obtain⟨i,rfl,q⟩:=q1;obtain⟨t,rfl⟩:=r1;exact⟨U i,H1,I1,.int i t,q⟩
def JI (X:Cx)(r:V->Option Int->Option Int->Hp->VK->Prop):Prop :=
 ∀(cM:List<|cN×gz) (s:cU) (Z:St) (H:Hp) (x:V) (v vl vu:cJ) (lo hi:Option Int) (sl:cN) (Q:VK),Ê X cM Z H s->Ì x v->s.heap.IsSliceOf sl vl vu .none->IsPart vl lo->IsPart vu hi->r x lo hi H Q ->
  ∃T id,yF (.type T) "__getitem__"=pure (U<|.builtin id)/\s.TypeIs v T/\dg (dz X.prog X.w) X.A (su v<|.ref sl) (EP X cM Z Q) X.xe s
def U6 (r:V->Option Int->Option Int->Hp->VK->Prop)(te:TE)(tl th:TO):TE:=λZ H Q=>te Z H λx H1=>tl Z H1 λl H2=>th Z H2 λu H3=>r x l u H3 Q
theorem PR {r:V->Option Int->Option Int->Hp->VK->Prop}(hr:JI X r)(he:PE X e te)(hl:PO X lo tl)(hu:PO X hi th):PE X (.Subscript e (.Slice lo hi G p2) pos) (U6 r te tl th):=by intro cM s Z H Q I h;refine Subscript_<|gc (he cM s Z H _ I h) λv s1 gR=>?_;obtain⟨x,H1,I1,r1,q1⟩:=gR;refine wpAny_Slice<|gc (hl cM s1 Z H1 _ I1 q1) λvl s2 ⟨l,H2,I2,pl,q2⟩=>gc (hu cM s2 Z H2 _ I2 q2) λvu s3 gR=>?_;obtain⟨u,H3,I3,pu,q3⟩:=gR;rw[evalPart_none];refine dw ?_;have I4:Ê X cM Z H3 { s3 with heap:=s3.heap.push { cls:=.type "slice",data:=.fields #[vl,vu,.none] } }:=I3.kept (t':=s3.toks) λb ob q=>cS _ q;obtain⟨T,id,hT,ht,hg⟩:=hr cM { s3 with heap:=s3.heap.push { cls:=.type "slice",data:=.fields #[vl,vu,.none] } } Z H3 x v vl vu l u s3.heap.objs.size Q I4 r1 (c7.IsSliceOf.new ..) pl pu q3;show dg (dz X.prog X.w) X.A (subscriptTail e (.Slice lo hi G p2) v<|.ref s3.heap.objs.size) (EP X cM Z Q) X.xe { s3 with heap:=s3.heap.push { cls:=.type "slice",data:=.fields #[vl,vu,.none] } };exact tail_any (ops:=[.ref s3.heap.objs.size,v]) ht hT hg (by with_unfolding_all rfl)
def AF (xs:List V)(lo hi:Option Int):List V:=(xs.drop<|HT.sIx xs.length 0 lo).take<|HT.sIx xs.length xs.length hi-HT.sIx xs.length 0 lo
theorem Xn (xs:List V)(lo hi:Option Int):(AF xs lo hi).length<=xs.length:=by unfold AF;rw[kb,ka];lia
def DG (K:cL):R2:=λx y H Q=>∃a b xs ys,x=.ref a/\y=.ref b/\pX K H a xs/\pX K H b ys/\xs≠[]/\xs.length+ys.length<=sizeLine /\
 (ys=[]->Q (.ref a) H)/\(ys≠[]->∀p,H p=G->Q (.ref p) (upd H p<|.tup<|xs++ys))
theorem ez.nil_iff (r:ez xs us):us=[]↔xs=[]:=by
 cases r with
 |nil=>simp
 |cons _ _=>simp
theorem ztk:lU X (ik .Add) (DG X.K):=by intro cM s Z H x y v u Q I rx ry h;obtain⟨a,b,xs,ys,rfl,rfl,ha,hb,hx,hz,q1,q2⟩:=h;cases rx;cases ry;obtain⟨eE,r1,p1,_⟩:=I.tuple ha;obtain⟨CJ,r2,p2,_⟩:=I.tuple hb;refine HT.cat_tup p1 p2 (λz=>hx<|r1.nil_iff.mp z) (λz=>⟨.ref a,H,I,rfl,q1<|r2.nil_iff.mp z⟩) (λz=>?_) (by rw[←r1.length,←r2.length];exact hz);refine⟨.ref s.heap.objs.size,_,I.laid (t':=s.toks) (o:=.tup<|xs++ys) (λb ob q=>cS _ q) (di _) ?_,rfl,q2 (λw=>z<|r2.nil_iff.mpr w) _<|I.hok.fresh<|di _⟩;exact⟨by rw[ee];exact hz,_,r1.append r2,IsTup.new _ _⟩
end
noncomputable def ó (n:Nat)(i:Int):Option Nat:=if 0<=i then(if i<n then U i.toNat else G)else if -(n:Int)<=i then U (i+n).toNat else G
variable {α:Type}
def atI (xs:List α)(i:Int):Option α:=(ó xs.length i).bind λj=>xs[j]?
variable {j:Nat}
theorem QD {n:Nat}{i:Int}(h:ó n i=U j):seqIndex? i n=U j/\j<n/\-(n:Int)<=i/\i<n:=by
 unfold ó at h;by_cases h0:0<=i
 ·rw[if_pos h0]at h;by_cases h1:i<n
  ·rw[if_pos h1]at h;have e:i.toNat=j:=Option.some.inj h;exact⟨by rw[vP h0 h1,e],by lia,by lia,h1⟩
  ·rw[if_neg h1]at h;cases h
 ·rw[if_neg h0]at h;by_cases h1:-(n:Int)<=i
  ·rw[if_pos h1]at h;have e:(i+n).toNat=j:=Option.some.inj h;exact⟨by rw[uI (by lia) h1,e],by lia,h1,by lia⟩
  ·rw[if_neg h1]at h;cases h
theorem IX {xs:List α}{i:Int}{v:α}(h:atI xs i=U v):∃j,seqIndex? i xs.length=U j/\xs[j]?=U v/\j<xs.length/\-(xs.length:Int)<=i/\i<xs.length:=by
 unfold atI at h;cases e:ó xs.length i with
 |none=>rw[e]at h;cases h
 |some j=>rw[e]at h;obtain⟨h1,h2,h3,h4⟩:=QD e;exact⟨j,h1,h,h2,h3,h4⟩
theorem wy {xs:List α}{v:α}(h:xs[j]?=U v):atI xs (j:Int)=U v:=by
 have hj:j<xs.length:=(dM.mp h).1;have e:ó xs.length (j:Int)=U j:=by unfold ó;rw[if_pos<|by lia,if_pos<|by lia];simp
 unfold atI;rw[e];exact h
def n8 (b:Expr):Prop:=∀o i,vQ b Ã o i=operate [o,i] (su o i)
def BW (X:Cx)(r:R2):Prop :=
 ∀(value slice:Expr) (cM:List<|cN×gz) (s:cU) (Z:St) (H:Hp) (x y:V) (v u:cJ) (Q:VK),Ê X cM Z H s->Ì x v->Ì y u->r x y H Q ->
  vQ slice Ã v u=operate [v,u] (su v u)->dg (dz X.prog X.w) X.A (subscriptTail value slice v u) (EP X cM Z Q) X.xe s
def Dh (X:Cx)(id:String)(r:V->List V->Hp->VK->Prop):Prop :=
 ∀(cM:List<|cN×gz) (s:cU) (Z:St) (H:Hp) (x:V) (xs:List V) (v:cJ) (us:List cJ) (Q:VK),Ê X cM Z H s->Ì x v->ez xs us->r x xs H Q ->
  dg (dz X.prog X.w) X.A (call (.builtin id) (v::us)) (EP X cM Z Q) X.xe s
variable {H:Hp}{T:String}{fL:mR}{es:List Expr}{eE:List cJ}{name:Str}{o:Expr}{cM:List (cN×gz)}{r:R2}{s:cU}{ta tb:TE}{u:cJ}{y:V}{ys:List V}{Z:St}
section
variable {a b:Expr}
theorem BW.or {r':R2}(h:BW X r)(h':BW X r'):BW X (λx y H Q=>r x y H Q\/r' x y H Q):=by
 intro value slice cM s Z H x y v u Q I rx ry q hs;rcases q with q|q
 ·exact h value slice cM s Z H x y v u Q I rx ry q hs
 ·exact h' value slice cM s Z H x y v u Q I rx ry q hs
theorem Jx (hr:BW X r)(ha:PE X a ta)(hb:PE X b tb)(hs:n8 b):PE X (.Subscript a b pos) (Hj r ta tb):=by intro cM s Z H Q I h;exact Subscript_<|D1 ha hb I h λv u s2 x y H2 I2 rx ry q=>hr a b cM s2 Z H2 x y v u Q I2 rx ry q<|hs _ _
def G3 (K:cL):R2:=λx y H Q=>∃p xs i v,x=.ref p/\y=.int i/\iE K H p xs/\atI xs i=U v/\Q v H
def G5 (K:cL):R2:=λx y H Q=>∃p xs i v,x=.ref p/\y=.int i/\pX K H p xs/\atI xs i=U v/\Q v H
def G4:R2:=λx y H Q=>∃z i c,x=.str z/\y=.int i/\z.length<=sizeLine/\atI z.cps.toList i=U c/\Q (.str ⟨#[c]⟩) H
theorem QE:BW X (G3 X.K):=by
 intro value slice cM s Z H x y v u Q I rx ry h hs;obtain⟨p,xs,i,z,rfl,rfl,hq,he,q⟩:=h;cases rx;obtain⟨t,rfl⟩:=ry;obtain⟨eE,r,pl,hz⟩:=I.list hq;obtain⟨j,h1,h2,h3,h4,h5⟩:=IX he;obtain⟨w,ew,uY⟩:=r.get h2;have hl:=r.length;have hn:=pK;have fin:EP X cM Z Q w s:=⟨z,H,I,uY,q⟩;by_cases h0:0<=i
 ·have hj:i.toNat=j:=by rw[vP h0 h5]at h1;exact Option.some.inj h1
  exact item_listR pl.isList h0 (by lia) (by rw[hj];simpa using ew) fin hs
 ·have hj:(i+(eE.toArray.size:Int)).toNat=j:=by rw[uI (by lia) h4]at h1;rw[de,←hl];exact Option.some.inj h1
  exact subscriptTail_builtinR (x:=w) pl.isList.typeIs slot_list_getitem.lookup
   (wpAny_getItem_list_neg (Q:=λr s'=>r=w/\EP X cM Z Q r s') pl.isList (by lia) (by rw[de]<;>lia) (by lia) (by rw[hj];simpa using ew) ⟨rfl,fin⟩) hs
theorem ϝ:BW X (G5 X.K):=by
 intro value slice cM s Z H x y v u Q I rx ry h hs;obtain⟨p,xs,i,z,rfl,rfl,hq,he,q⟩:=h;cases rx;obtain⟨t,rfl⟩:=ry;obtain⟨eE,r,pl,hz⟩:=I.tuple hq;obtain⟨j,h1,h2,h3,h4,h5⟩:=IX he;obtain⟨w,ew,uY⟩:=r.get h2;have hl:=r.length;have hn:=pK;have fin:EP X cM Z Q w s:=⟨z,H,I,uY,q⟩;exact subscriptTail_builtinR (x:=w) pl.typeIs slot_tuple_getitem.lookup
  (getItem_tuple (j:=j) (Q:=λr s'=>r=w/\EP X cM Z Q r s') pl (by lia) (by lia) (by rw[de,←hl];exact h1) (by simpa using ew) ⟨rfl,fin⟩) hs
theorem vU:BW X G4:=by
 intro value slice cM s Z H x y v u Q I rx ry h hs;obtain⟨z,i,c,rfl,rfl,hz,he,q⟩:=h;obtain⟨t,rfl⟩:=rx;obtain⟨t',rfl⟩:=ry;obtain⟨j,h1,h2,h3,h4,h5⟩:=IX he;have hl:z.cps.toList.length=z.length:=by simp[Str.length]
 rw[hl]at h1 h4 h5;have hn:=pK;exact tail_any (typeIs_str s z t) slot_str_getitem.lookup (getItem_str (c:=c) (by have e1:decide (i < -(2 ^ 63:Int))=Ã:=decide_eq_false (by lia);have L:decide (i >= 2 ^ 63)=Ã:=decide_eq_false (by lia);rw[e1,L,C6]) (by rw[h1];simpa using h2) ⟨.str ⟨#[c]⟩,H,I.tok _,⟨_,rfl⟩,q⟩) hs
def Od (K:cL):R2:=λx y H Q=>G3 K x y H Q\/G5 K x y H Q\/G4 x y H Q
theorem qp:BW X (Od X.K):=QE.or<|ϝ.or vU
theorem X8 (eE:List cJ)(n j:Nat)(u:cJ):gz.mapSeq (·.setIfInBounds j u) { cls:=.type "list",data:=.seq eE.toArray n } = { cls:=.type "list",data:=.seq (eE.set j u).toArray n }:=by simp[gz.mapSeq]
theorem Ê.lst {p:cN}(I:Ê X cM Z H s)(h:H p=U (.lst xs)) :
    ∃(eE:List cJ) (n:Nat),ez xs eE/\s.heap.get? p=U { cls:=.type "list",data:=.seq eE.toArray n }/\xs.length<=sizeLine:=by
  obtain⟨z,eE,n,r,e⟩:=I.hok p _ h;exact⟨eE,n,r,e,z⟩
theorem Ê.lstUpd {p:cN}{its':List cJ}{n n':Nat}{f:gz->gz}(I:Ê X cM Z H s)(h:H p=U (.lst xs))
    (ho:s.heap.get? p=U { cls:=.type "list",data:=.seq eE.toArray n }) (hf:f { cls:=.type "list",data:=.seq eE.toArray n } = { cls:=.type "list",data:=.seq its'.toArray n' }) (r:ez ys its') (hz:ys.length<=sizeLine) (t:Nat) :
    Ê X cM Z (upd H p<|.lst ys) { s with heap:=s.heap.update p f,toks:=t }:=by
  have e:(s.heap.update p f).get? p=U { cls:=.type "list",data:=.seq its'.toArray n' }:=by rw[gS f ho<|by rw[hf]<;>rfl,hf]
  refine I.write (x:=p) (e:=p) (by rw[h];trivial) (.inl rfl) (λb u hb q=>(fH _ _<|Ne.symm hb).trans q) ⟨_,e⟩ ?_;exact⟨hz,its',n',r,e⟩
def G8:V->V->V->Hp->(Hp->Prop)->Prop:=λo i v H Q=>∃p xs k j,o=.ref p/\i=.int k/\H p=U (.lst xs)/\ó xs.length k=U j/\Q (upd H p<|.lst<|xs.set j v)
theorem PU:DW X G8:=by
 intro cM s Z H o i v ov iv u Q I ro ri rv h;obtain⟨p,xs,k,j,rfl,rfl,hp,hj,q⟩:=h;cases ro;obtain⟨t,rfl⟩:=ri;obtain⟨eE,n,r,ho,hz⟩:=I.lst hp;obtain⟨h1,h2,h3,h4⟩:=QD hj;have hl:=r.length;have hn:=pK;have I':Ê X cM Z (upd H p<|.lst<|xs.set j v) { s with heap:=s.heap.update p (gz.mapSeq (·.setIfInBounds j u)) } :=
  I.lstUpd hp ho (X8 eE n j u) (r.set rv j) (by rw[tQ];exact hz) s.toks
 by_cases h0:0<=k
 ·have hk:k.toNat=j:=by rw[vP h0 h4]at h1;exact Option.some.inj h1
  exact PySem.W.ki_setAt ho h0 (by lia) (by rw[de,←hl];exact h4) (by rw[hk];exact⟨_,I',q⟩)
 ·have hk:(k+(eE.toArray.size:Int)).toNat=j:=by rw[uI (by lia) h3]at h1;rw[de,←hl];exact Option.some.inj h1
  exact PySem.W.ki_setBack ho (by lia) (by rw[de,←hl];exact h3) (by lia) (by rw[hk];exact⟨_,I',q⟩)
theorem WU (lo hi:Option Int)(n:Nat):(mU lo hi G n).1=((HT.sIx n 0 lo:Nat):Int)/\(mU lo hi G n).2.1=((HT.sIx n n hi:Nat):Int)/\(mU lo hi G n).2.2=1:=by
 refine⟨?_,?_,rfl⟩
 ·cases lo with
  |none=>simp[mU,HT.sIx]
  |some i=>
   simp only[mU,HT.sIx,Av,show(1:Int) > 0 by decide,if_true];by_cases h:i<0
   ·simp only[h,if_true]<;>lia
   ·simp only[h,if_false]<;>lia
 ·cases hi with
  |none=>simp[mU,HT.sIx]
  |some i=>
   simp only[mU,HT.sIx,Av,show(1:Int) > 0 by decide,if_true];by_cases h:i<0
   ·simp only[h,if_true]<;>lia
   ·simp only[h,if_false]<;>lia
theorem Wv (eE:List cJ)(lo hi:Option Int):slicePick eE.toArray lo hi G=((eE.drop<|HT.sIx eE.length 0 lo).take<|HT.sIx eE.length eE.length hi-HT.sIx eE.length 0 lo).toArray:=by obtain⟨h1,h2,h3⟩:=WU lo hi eE.toArray.size;unfold slicePick;rw[h1,h2,h3];simp only[sliceRange_one,pick_run,de]<;>rfl
def Lh (K:cL):V->Option Int->Option Int->Hp->VK->Prop:=λx lo hi H Q=>∃a xs,x=.ref a/\iE K H a xs/\∀p,H p=G->Q (.ref p) (upd H p<|.lst<|AF xs lo hi)
theorem ztl:JI X (Lh X.K):=by intro cM s Z H x v vl vu lo hi sl Q I rx hs pl pu h;obtain⟨a,xs,rfl,hx,q⟩:=h;cases rx;obtain⟨eE,r,ht,hz⟩:=I.list hx;have lO:=r.length;refine⟨"list",_,slot_list_getitem.lookup,ht.isList.typeIs,?_⟩;refine wpAny_getItem_list_slice ht.isList hs pl pu .none (by simp) ?_ (by rw[de]<;>lia);rw[Wv,←lO];refine⟨.ref s.heap.objs.size,_,I.laid (t':=s.toks) (o:=.lst<|AF xs lo hi) (λb ob q=>cS _ q) (di _) ?_,rfl,q _<|I.hok.fresh<|di _⟩;exact⟨eQ (Xn xs lo hi) hz,_,0,(r.drop<|HT.sIx xs.length 0 lo).take<|HT.sIx xs.length xs.length hi-HT.sIx xs.length 0 lo,dq _ rfl⟩
noncomputable def nQ:V->Bool
 |.non=>Â
 |.bl _=>Â
 |.int _=>Â
 |.str _=>Â
 |_=>Ã
def AG:V->V->Bool
 |.non,.non=>Â
 |.bl a,.bl b=>a==b
 |.bl a,.int b=>(if a then 1 else 0)==b
 |.int a,.bl b=>a==(if b then 1 else 0)
 |.int a,.int b=>a==b
 |.str a,.str b=>a==b
 |_,_=>Ã
theorem Ϝ {A:d6}{x:V}{v:cJ}(ry:Ì y u)(rx:Ì x v)(fy:nQ y=Â)(fx:nQ x=Â):SeqAt.EqAt A s u v (AG y x):=by
 cases y with
 |non=>
  cases ry;cases x with
  |non=>cases rx;exact SeqAt.EqAt.same _
  |bl b=>cases rx;exact SeqAt.EqAt.none_bool b
  |int b=>obtain⟨t,rfl⟩:=rx;exact SeqAt.EqAt.none_int b t
  |str b=>obtain⟨t,rfl⟩:=rx;exact SeqAt.EqAt.none_str b t
  |_=>exact absurd (show Ã=Â from fx) cZ
 |bl a=>
  cases ry;cases x with
  |non=>cases rx;exact SeqAt.EqAt.bool_none a
  |bl b=>cases rx;exact SeqAt.EqAt.bool_bool a b
  |int b=>obtain⟨t,rfl⟩:=rx;exact SeqAt.EqAt.bool_int a b t
  |str b=>obtain⟨t,rfl⟩:=rx;exact SeqAt.EqAt.bool_str a b t
  |_=>exact absurd (show Ã=Â from fx) cZ
 |int a=>
  obtain⟨t',rfl⟩:=ry;cases x with
  |non=>cases rx;exact SeqAt.EqAt.int_none a t'
  |bl b=>cases rx;exact SeqAt.EqAt.int_bool a t' b
  |int b=>obtain⟨t,rfl⟩:=rx;exact SeqAt.EqAt.int_int a t' b t
  |str b=>obtain⟨t,rfl⟩:=rx;exact SeqAt.EqAt.int_str a t' b t
  |_=>exact absurd (show Ã=Â from fx) cZ
 |str a=>
  obtain⟨t',rfl⟩:=ry;cases x with
  |non=>cases rx;exact SeqAt.EqAt.str_none a t'
  |bl b=>cases rx;exact SeqAt.EqAt.str_bool a t' b
  |int b=>obtain⟨t,rfl⟩:=rx;exact SeqAt.EqAt.str_int a t' b t
  |str b=>obtain⟨t,rfl⟩:=rx;exact SeqAt.EqAt.str_str a t' b t
  |_=>exact absurd (show Ã=Â from fx) cZ
 |_=>exact absurd (show Ã=Â from fy) cZ
def wN (x:V)(u:cJ):Bool:=match u with
 |.none=>AG .non x
 |.bool b=>AG (.bl b) x
 |.int i _=>AG (.int i) x
 |.str z _=>AG (.str z) x
 |_=>Ã
theorem MU {x:V}(r:Ì y u)(f:nQ y=Â):wN x u=AG y x:=by
 cases y with
 |non=>cases r;rfl
 |bl b=>cases r;rfl
 |int i=>obtain⟨t,rfl⟩:=r;rfl
 |str z=>obtain⟨t,rfl⟩:=r;rfl
 |_=>exact absurd (show Ã=Â from f) cZ
theorem Hs {x:V}:∀{xs:List V} {us:List cJ},ez xs us->xs.all nQ=Â->us.any (wN x)=xs.any λy=>AG y x
 |_,_,.nil,_=>rfl
 |y::xs,u::us,.cons r t,f=>by rw[gJ,dE]at f;rw[kJ,kJ,MU r f.1,Hs t f.2]
theorem uk {A:d6}{s:cU}{x:V}{v:cJ}(rx:Ì x v)(fx:nQ x=Â):∀{xs:List V} {us:List cJ},ez xs us->xs.all nQ=Â->∀u∈us,SeqAt.EqAt A s u v (wN x u)
 |_,_,.nil,_=>λu hu=>by cases hu
 |y::xs,u::us,.cons r t,f=>λu' hu=>by
  rw[gJ,dE]at f;rcases cP.mp hu with rfl|hu
  ·rw[MU r f.1];exact Ϝ r rx f.1 fx
  ·exact uk rx fx t f.2 u' hu
def Il (x:V)(xs:List V):Bool:=xs.any λy=>AG y x
def Lg (K:cL)(neg:Bool):R2:=λx y H Q=>∃p xs,y=.ref p/\(iE K H p xs\/pX K H p xs)/\nQ x=Â/\xs.all nQ=Â/\Q (.bl<|if neg then !Il x xs else Il x xs) H
theorem YJ:lU X (eX .In) (Lg X.K Ã):=by
 intro cM s Z H x y v u Q I rx ry h;obtain⟨p,xs,rfl,hq,fx,fs,q⟩:=h;cases ry;rcases hq with hq|hq
 ·obtain⟨eE,r,pl,hz⟩:=I.list hq;refine SeqAt.in_listAt (wN x) pl.isList (λw hw=>uk rx fx r fs w<|by simpa using hw) ⟨.bl _,H,I,rfl,?_⟩;rw[show eE.toArray.any (wN x)=eE.any (wN x)by simp,Hs r fs];exact q
 ·obtain⟨eE,r,pl,hz⟩:=I.tuple hq;refine SeqAt.in_tupleAt (wN x) pl (λw hw=>uk rx fx r fs w<|by simpa using hw) ⟨.bl _,H,I,rfl,?_⟩;rw[show eE.toArray.any (wN x)=eE.any (wN x)by simp,Hs r fs];exact q
theorem wv:lU X (eX .NotIn) (Lg X.K Â):=by
 intro cM s Z H x y v u Q I rx ry h;obtain⟨p,xs,rfl,hq,fx,fs,q⟩:=h;cases ry;rcases hq with hq|hq
 ·obtain⟨eE,r,pl,hz⟩:=I.list hq;refine SeqAt.notIn_listAt (wN x) pl.isList (λw hw=>uk rx fx r fs w<|by simpa using hw) ⟨.bl _,H,I,rfl,?_⟩;rw[show eE.toArray.any (wN x)=eE.any (wN x)by simp,Hs r fs];exact q
 ·obtain⟨eE,r,pl,hz⟩:=I.tuple hq;refine SeqAt.notIn_tupleAt (wN x) pl (λw hw=>uk rx fx r fs w<|by simpa using hw) ⟨.bl _,H,I,rfl,?_⟩;rw[show eE.toArray.any (wN x)=eE.any (wN x)by simp,Hs r fs];exact q
theorem WV:jK X (.builtin "len") (λxs H Q=>∃p ys,xs=[.ref p]/\(iE X.K H p ys\/pX X.K H p ys)/\Q (.int ys.length) H):=by
 intro cM s Z H xs us Q I r h;obtain⟨p,ys,rfl,hq,q⟩:=h;obtain⟨u,rfl,rx⟩:=tD r;cases rx;have hn:=pK;rcases hq with hq|hq
 ·obtain⟨eE,r',pl,hz⟩:=I.list hq;have lO:=r'.length;exact Calls.call_len_list pl.isList (by simp only[de]<;>lia) ⟨.int ys.length,H,I.tok _,⟨s.toks+1,by rw[de,lO]⟩,q⟩
 ·obtain⟨eE,r',pl,hz⟩:=I.tuple hq;have lO:=r'.length;exact len_tuple pl (by simp only[de]<;>lia) ⟨.int ys.length,H,I.tok _,⟨s.toks+1,by rw[de,lO]⟩,q⟩
theorem WW:jK X (.builtin "len") (λxs H Q=>∃z,xs=[.str z]/\z.length<=sizeLine/\Q (.int z.length) H):=by intro cM s Z H xs us Q I r h;obtain⟨z,rfl,hz,q⟩:=h;obtain⟨u,rfl,t,rfl⟩:=tD r;have hn:=pK;exact len_str (by lia) ⟨.int z.length,H,I.tok _,⟨_,rfl⟩,q⟩
theorem jK.or {f:cJ}{r r':List V->Hp->VK->Prop}(h:jK X f r)(h':jK X f r'):jK X f (λxs H Q=>r xs H Q\/r' xs H Q):=by
 intro cM s Z H xs us Q I rs q;rcases q with q|q
 ·exact h cM s Z H xs us Q I rs q
 ·exact h' cM s Z H xs us Q I rs q
theorem v6:jK X (.type "list") (λxs H Q=>∃p ys,xs=[.ref p]/\(iE X.K H p ys\/pX X.K H p ys)/\∀l,H l=G->Q (.ref l) (upd H l<|.lst ys)):=by
  intro cM s Z H xs us Q I r h;obtain⟨p,ys,rfl,hq,q⟩:=h;obtain⟨u,rfl,rx⟩:=tD r;cases rx;have fin:∀(eE:List cJ),ez ys eE->ys.length<=sizeLine->∀(h':c7) (c':Nat),(∀b o',s.heap.get? b=U o'->h'.get? b=U o') ->
      h'.get? s.heap.objs.size=U { cls:=.type "list",dict:=none,data:=.seq eE.toArray c',slots:=#[] }->EP X cM Z Q (.ref s.heap.objs.size) { s with heap:=h' }:=λeE r' hz h' c' kp e=>
    ⟨.ref s.heap.objs.size,_,I.laid (t':=s.toks) kp (di _) (show hV X.prog X.w _ h' _ (.lst ys)from⟨hz,eE,c',r',e⟩),rfl,q _<|I.hok.fresh<|di _⟩
  rcases hq with hq|hq
  · obtain⟨eE,r',pl,hz⟩:=I.list hq;have lO:=r'.length;obtain⟨o,ho,hc,n,hd⟩:=pl.isList;exact call_list_seq p (.inl rfl) ho hc hd (λh' c' kp e=>fin eE r' hz h' c' kp e) (by simp only[de]<;>lia)
  · obtain⟨eE,r',pl,hz⟩:=I.tuple hq;have lO:=r'.length;obtain⟨o,ho,hc,n,hd⟩:=pl;exact call_list_seq p (.inr rfl) ho hc hd (λh' c' kp e=>fin eE r' hz h' c' kp e) (by simp only[de]<;>lia)
def Ox (K:cL)(T:String)(x:V)(H:Hp):Prop:=match x with
 |.str _=>T = "str"
 |.int _=>T = "int"
 |.ref p=>(T = "list"/\∃xs,iE K H p xs)\/(T = "tuple"/\∃o,K.lookup p=U o/\o.cls=.type "tuple"/\o.dict=G) \/
   (T = "dict"/\((∃fm,H p=U (.dK fm))\/∃fm,H p=U (.dT fm)))\/(T = "set"/\∃W' n,H p=U (.set W' n))
 |_=>False
theorem ϛ {x:V}{v:cJ}(I:Ê X cM Z H s)(r:Ì x v)(ty:Ox X.K T x H) :
  s.TypeIs v T/\∀a,v=.ref a->∃ob,s.heap.get? a=U ob/\ob.dict=G:=by
 cases x with
 |str z=>obtain⟨t,rfl⟩:=r;cases(show T = "str" from ty);exact⟨typeIs_str s z t,λ_ e=>nomatch e⟩
 |int i=>obtain⟨t,rfl⟩:=r;cases(show T = "int" from ty);exact⟨Df s i t,λ_ e=>nomatch e⟩
 |ref p=>
  cases r;rcases ty with⟨rfl,xs,hq⟩|⟨rfl,o,hk,hc,hd⟩|⟨rfl,hk⟩|⟨rfl,W',n,hk⟩
  ·obtain⟨eE,_,pl,_⟩:=I.list hq;refine⟨pl.isList.typeIs,λa e=>?_⟩;cases e;obtain⟨o,n,e,c,hd,_⟩:=pl;exact⟨o,e,hd⟩
  ·refine⟨⟨o,I.kIn p o hk,hc⟩,λa e=>?_⟩;cases e;exact⟨o,I.kIn _ o hk,hd⟩
  ·have z:∃o,s.heap.get? p=U o/\o.ExactDict:=by
    rcases hk with⟨fm,hk⟩|⟨fm,hk⟩
    ·obtain⟨_,_,_,_,o,_,_,e,ex,_⟩:=I.hok p _ hk;exact⟨o,e,ex⟩
    ·obtain⟨_,_,_,_,o,_,_,e,ex,_⟩:=I.hok p _ hk;exact⟨o,e,ex⟩
   obtain⟨o,e,ex⟩:=z;refine⟨⟨o,e,ex.1⟩,λa L=>?_⟩;cases L;exact⟨o,e,ex.2.1⟩
  ·obtain⟨o,_,_,_,e,ex,_⟩:=I.hok p _ hk;refine⟨⟨o,e,ex.1⟩,λa L=>?_⟩;cases L;exact⟨o,e,ex.2.1⟩
 |_=>exact False.elim ty
def U2 (K:cL)(T:String)(r:V->List V->Hp->VK->Prop)(to:TE)(t:TA):TE:=λZ H Q=>to Z H λx H1=>Ox K T x H1/\t Z H1 λxs H2=>r x xs H2 Q
variable {to:TE}{t:TA}{eY:mR}{id:String}{r:V->List V->Hp->VK->Prop}
theorem Ca (pa:PlainAttrs T)(slot:Slot T name id)(Uk:typeOf (.builtin id)=pure (.type "method_descriptor"))(hm:Dh X id r)(ho:PE X o to)(ha:PA X (e::es) t)
  (kh:yO X o name:=by rfl)
  (nF:Bm X eY (e::es):=by rfl)
  (ki:(fL.endLine==eY.line)=Â:=by rfl) (hs:SE X e es:=by rfl) (iw:pW X eY es:=by rfl) :
  PE X (.Call (.Attribute o name fL) (e::es) [] eY) (U2 X.K T r to t):=by
 intro cM s Z H Q I h;refine wpAny_Call_method_late kh nF ki rfl<|gc (ho cM s Z H _ I h) λv s1 gR=>?_;obtain⟨x,H1,I1,r1,ty,q1⟩:=gR;obtain⟨h1,h2⟩:=ϛ I1 r1 ty;refine⟨T,id,pa,slot,Uk,h1,h2,?_⟩;have hA:=ha eY cM s1 Z H1 _ I1 q1;rw[hs]at hA ⊢;refine Calls.callWith_builtin (by show(Ã || (i8 eY<|dJ es X.env).any (·.1))=Ã;rw[iw]<;>rfl)<|Calls.evalArgs_plain ?_;exact gc hA λus s2 ⟨vs,H2,I2,r2,q2⟩=>hm cM s2 Z H2 x vs v us Q I2 r1 r2 q2
end
def Sx (X:Cx)(id:String)(r:V->List V->Hp->VK->Prop):Prop :=
 ∀(cM:List<|cN×gz) (s:cU) (Z:St) (H:Hp) (x:V) (xs:List V) (v:cJ) (us:List cJ) (Q:VK),Ê X cM Z H s->Ì x v->ez xs us->r x xs H Q ->
  dg (dz X.prog X.w) X.A (call (.builtin id) (v::us)) (EP X cM Z Q) X.xe s
theorem ez.one:∀{x:V} {us:List cJ},ez [x] us->∃u,us=[u]/\Ì x u
 |_,_,.cons r .nil=>⟨_,rfl,r⟩
theorem ez.two {x:V}(h:ez [x,y] us):∃u v,us=[u,v]/\Ì x u/\Ì y v:=by
 cases h with
 |cons r t=>
  cases t with
  |cons q t2=>cases t2;exact⟨_,_,rfl,r,q⟩
theorem ez.rep {xs:List V}{us:List cJ}(h:ez xs us):∀k:Nat,ez (cY k xs).flatten (cY k us).flatten
 |0=>.nil
 |k+1=>by rw[gA,gA,jH,jH];exact ez.append h<|ez.rep h k
theorem O7 (eE:List cJ):∀(k:Nat) (mW:List cJ),
  As (λx1 x2=>x1++x2) mW.toArray (cY k eE.toArray)=(mW++(cY k eE).flatten).toArray
 |0,mW=>by simp
 |k+1,mW=>by
  have e:mW.toArray++eE.toArray=(mW++eE).toArray:=by simp
  have L:(mW++eE)++(cY k eE).flatten=mW++(cY (k+1) eE).flatten:=by rw[gA,jH,et]
  rw[←L,←O7 eE k<|mW++eE,←e,gA,List.foldl_cons]
variable {b:cN}{t':Nat}
section
variable {l:cN}{zs:List V}
theorem Ê.lset {its':List cJ}{n:Nat}{f:Array cJ->Array cJ}(I:Ê X cM Z H s)(hH:H l=U (.lst xs))
    (e:s.heap.get? l=U { cls:=.type "list",data:=.seq eE.toArray n }) (hf:f eE.toArray=its'.toArray) (hv:ez ys its') (hz:ys.length<=sizeLine) :
    Ê X cM Z (upd H l<|.lst ys) { s with heap:=s.heap.update l (gz.mapSeq f),toks:=t' }:=by
  have q:=PySem.IsL.update e f;rw[hf]at q;refine I.write (x:=l) (e:=l) (by rw[hH];exact trivial) (.inl rfl) (λb' u hb hu=>(fH s.heap (gz.mapSeq f)<|Ne.symm hb).trans hu) ⟨_,q⟩ ?_;exact⟨hz,its',_,hv,q⟩
theorem Ê.lnew (I:Ê X cM Z H s)(hv:ez ys eE)(hz:ys.length<=sizeLine) :
    Ê X cM Z (upd H s.heap.objs.size<|.lst ys) { s with heap:=s.heap.push { cls:=.type "list",data:=.seq eE.toArray },toks:=t' } :=
  I.laid (λ_ _ q=>cS _ q) (di _) ⟨hz,eE,0,hv,dq _ rfl⟩
theorem Ê.fresh (I:Ê X cM Z H s):H s.heap.objs.size=G:=I.hok.fresh<|di _
theorem Ê.lstM (I:Ê X cM Z H s)(hH:H l=U (.lst xs)):xs.length<=sizeLine/\∃(eE:List cJ) (n:Nat),ez xs eE/\xs.length=eE.length/\s.heap.get? l=U { cls:=.type "list",data:=.seq eE.toArray n }:=by obtain⟨z,eE,n,r,e⟩:=I.hok l _ hH;exact⟨z,eE,n,r,r.length,e⟩
theorem BH {n:Nat}(h:n<=sizeLine):Builtin.List.listTooLong n=Ã:=by unfold Builtin.List.listTooLong;exact decide_eq_false (by lia)
end
def CQ:V->List V->Hp->VK->Prop:=λx vs H Q=>∃l xs y,x=.ref l/\vs=[y]/\H l=U (.lst xs)/\xs.length<sizeLine/\Q .non (upd H l<|.lst<|xs++[y])
theorem LP:Sx X "list.append" CQ:=by intro cM s Z H x vs v us Q I rx rv h;obtain⟨l,xs,y,rfl,rfl,hH,hz,q⟩:=h;cases rx;obtain⟨u,rfl,ru⟩:=rv.one;obtain⟨z,eE,n,r,hl,e⟩:=I.lstM hH;refine my F.slot_list_append ⟨_,e,rfl⟩ F.entry_list_append (F.args_list_append_2 _ _) (PySem.list_append l eE.toArray n u<|by rw[de];lia) ⟨e,?_⟩;refine⟨.non,_,I.lset (its':=eE++[u]) hH e (by simp) (r.append<|.cons ru .nil) ?_,rfl,q⟩;rw[ee,pA];lia
theorem ztm (xs:List α)(k:Nat):(cY k xs).flatten.length=k*xs.length:=by
 induction k with
 |zero=>simp
 |succ k ih=>rw[gA,jH,ee,ih,yA,Nat.add_comm]
variable {E:cJ->cU->Prop}
end L2
namespace Att
open PySem PySem.W PySem.Calls PyProof.Rows
theorem V1 {P:Params}{h:c7}:∀(ns:List Int) (vs:List cJ),WellAll P h vs (ns.map WData.int)->IntsAre vs ns:=by
 intro ns;induction ns with
 |nil=>intro vs w;rw[si]at w;cases w;exact .nil
 |cons n ns ih=>
  intro vs w;rw[dC]at w;cases w with
  |cons a b=>cases a;exact .cons _ _<|ih _ b
theorem YK {l:OpenLaw}{n:Nat}(hn:l.most=U n){P:Params}{h:c7}{args:List WData}{vals:List cJ}
    (CB:l.row.toRowW.claim.pre args=Â) (KM:WellAll P h vals args) :
    ∃a vs ns,vals=[cJ.ref a]/\args=[WData.list<|ns.map WData.int]/\h.get? a=U { cls:=.type "list",data:=.seq vs.toArray }/\IntsAre vs ns/\ns.length<=n:=by
  have Ui:WShape.hasAll [] args [.list .int]=Â:=(pre_splitW CB).1;have hc:l.pre.holds [] { args:=args }=Â:=(pre_splitW CB).2;obtain⟨d,r,rfl,h1,h2⟩:=hasAllW_cons Ui;obtain rfl:=hasAllW_nil h2;obtain⟨xs,rfl,h3⟩:=hasW_list h1;obtain⟨ns,rfl⟩:=items_int h3;have lO:ns.length<=n:=by
    unfold OpenLaw.pre at hc;have h4:(WTm.not<|.lt (.lit<|.int n)<|.len<|.arg 0).holds [] { args:=[.list<|ns.map .int] }=Â:=by have h4:=(holds_andW hc).1;rw[hn]at h4;exact h4
    have h5:=condW_of h4<|w_not<|w_lt w_lit<|w_len_list<|w_arg rfl;rw[dr]at h5;refine Nat.le_of_not_lt λq=>?_;have q':(n:Int)<((ns.length:Nat):Int):=by lia
    first
      |(rw[decide_eq_true q']at h5;exact absurd h5 (by decide))
      |(simp at h5;lia)
  cases KM with
  |cons w1 w2=>
    cases w2;cases w1 with
    |list ho J1=>exact⟨_,_,ns,rfl,rfl,ho,V1 ns _ J1,lO⟩
theorem YL (l:OpenLaw)(args:List WData):l.row.toRowW.claim.post args (.bool Â) args=Â :=
  postW_of (r:=l.row.toRowW) (X:=(Â==Â))
    (show WShape.has [] (.bool Â) .bool=Â by first|rfl|decide|simp[WShape.has,WShape.arms,WShape.armsAll])
    (show(WTm.eq .res<|.lit<|.bool Â).value [] { args:=args,res:=some (.bool Â),after:=args }=U (.bool<|Â==Â)from w_eq_bool (w_res rfl) w_lit) rfl
theorem attach_call {l:OpenLaw}{n:Nat}{q:eL}{loose:List Str}{XP:(Str->Option cJ)->c7->Prop}{YP:d8->c7->Prop}{d:DefRec}
    (hn:l.most=U n) (Gm:d.params.defaults=[])
    (call:∀(w:d8) (s₀ s₁:cU) (mg mb:Str->Option cJ) (fa:cN) (o:gz) (pm cd doc:cJ) (a:cN) (vs:List cJ) (ns:List Int),
      Ground q loose [] XP w s₀ mg mb s₁.heap->YP w s₁.heap ->
      s₁.heap.get? fa=U o->o.data=.func (docDef d.name d.params d.body d.scope pm cd doc)->s₁.heap.CodeRec cd d.name->mg d.name=U (.ref fa) ->
      s₁.heap.get? a=U { cls:=.type "list",data:=.seq vs.toArray }->IntsAre vs ns->ns.length<=n->s₁.gens = #[] ->
      lx (dz l.prog w) uG (.call (.ref fa) ⟨[.ref a],[]⟩) (λr s'=>r=.ok (.ret<|.bool Â)/\OldK s₁.heap s'.heap/\s'.os=s₁.os/\AllBare s'.gens) s₁) :
    WalkO q loose XP YP l.row.toRowW d [] (λf vs=>PySem.call f vs):=by
  intro w s₀ s₁ mg mb V' Y' fa o pm cd doc dV kV ho hd kT hD hmg hg args vals as CB T9 hrd KM HY;obtain rfl:dV=.none:=Dflts.none hD Gm;obtain rfl:kV=.none:=Dflts.noKw hD;obtain⟨a,vs,ns,rfl,rfl,Ed,Bx,lO⟩:=YK hn CB KM;refine enter_call<|uH (call w s₀ s₁ mg mb fa o pm cd doc a vs ns V' Y' ho (fd_plain hd) kT hmg Ed Bx lO hg) λr s' hq=>?_;obtain⟨rfl,h2,h3,h4⟩:=hq;exact⟨.inl ⟨.bool Â,.bool Â,[],rfl,λ_=>rfl,.bool Â,YL l _,λ_=>⟨C7.nil,λ_ hm=>(nomatch hm)⟩⟩,h2,h3,h4⟩
end Att
namespace L2
open PySem PySem.Spec PyProof.Rows
theorem O8:∀{vs:List cJ} {ns:List Int},IntsAre vs ns->ez (ns.map V.int) vs
 |_,_,.nil=>.nil
 |_,_,.cons n t h=>.cons ⟨t,rfl⟩<|O8 h
def DV (H:Hp):Prop:=∀b,H b=G\/∃o xs,H b=U (.frz o<|.lst xs)
variable {CX:Cj}{P:eL}{fd:cT}{sp:Sp}{vs:List cJ}{x:Str}
theorem ZC {w:d8}{K:cL}{mg mb:Str->Option cJ}{k:Nat}{fa a:cN}{s₁:cU}{ns:List Int}
    (KX:K.In s₁.heap) (wO:s₁.heap.Ns eI mg) (hb:s₁.heap.Ns Dd mb) (TN:∀x:Str,x≠"__name__"->mb x=eP x) (Kn:s₁.heap.NoLimit) (hg:s₁.gens = #[])
    (ha:s₁.heap.get? a=U { cls:=.type "list",data:=.seq vs.toArray }) (hi:IntsAre vs ns) (hl:ns.length<=sizeLine) (hr:gu k uG)
    (F:∀base:c7,K.In base->base.Ns eI mg->dR P w K mg base CX k fa fd [x] sp) (Gi:∀(s:cU) (u:cJ),uF s fd ⟨[u],[]⟩ [(x,u)])
    (Dx:∀H:Hp,DV H->iE K H a (ns.map V.int)->sp [.ref a] H (λv _=>v=.bl Â) λ_ _ _=>False)
    (JX:∀H e s',CX [] H s₁ (λ_ _ _=>False) e s'->False) :
    lx (dz P w) uG (.call (.ref fa) ⟨[.ref a],[]⟩) (λr s'=>r=.ok (.ret<|.bool Â)/\OldK s₁.heap s'.heap/\s'.os=s₁.os/\AllBare s'.gens) s₁:=by
  have rv:=O8 hi;have K3:=hi.length;have core:∀H:Hp,DV H->iE K H a (ns.map V.int)->rn P w H s₁.heap->(∀b,H b≠G->b=a)->(H a≠G->K.lookup a=G) ->
      lx (dz P w) uG (.call (.ref fa) ⟨[.ref a],[]⟩) (λr s'=>r=.ok (.ret<|.bool Â)/\OldK s₁.heap s'.heap/\s'.os=s₁.os/\AllBare s'.gens) s₁:=by
    intro H hO hS hok hA hK;have Ad:∀{b:cN} {o:gz},s₁.heap.get? b=U o->H b=G->(vT s₁.heap H).get? b=U o:=λe n=>Za e n;have GS:∀{b:cN} {o:gz} {es:Array DictEntry} {ep:Nat},s₁.heap.get? b=U o->o.data=.dict es ep->H b=G:=λ{b o es ep} e d=>by
      cases q:H b with
      |none=>rfl
      |some u=>have e':b=a:=hA b (by rw[q];simp);subst e';rw[ha]at e;cases e;have d':rc.seq vs.toArray _=rc.dict es ep:=d;cases d'
    have Ir:∀{b:cN} {m:Str->Option cJ},s₁.heap.Ns b m->(vT s₁.heap H).Ns b m:=λ{b m} ⟨o,es,ep,e,d,r⟩=>⟨o,es,ep,Ad e<|GS e d,d,r⟩;have Nz:K.In (vT s₁.heap H):=λb o e=>Ad (KX b o e) (by
      cases q:H b with
      |none=>rfl
      |some u=>have e':b=a:=hA b (by rw[q];simp);subst e';rw[hK<|by rw[q];simp]at e;cases e)
    have hM:Mod K mg (vT s₁.heap H):=⟨Nz,Ir wO,⟨mb,Ir hb,TN⟩,let⟨mc,h1,h2⟩:=Kn;⟨mc,Ir h1,h2⟩⟩;have e0:yP P w K mg (vT s₁.heap H) uG [] s₁ H:=⟨rfl,hM,λb o e=>zs5 e,xY<|YB _ _,trivial,λb hb=>absurd (show b∈([]:List cN)from hb)<|by simp,hok,.of_eq hg⟩;refine uH ((F _ Nz<|Ir wO).run uG [] s₁ H ⟨[.ref a],[]⟩ [.ref a] [.ref a] _ _ hr e0 (Gi s₁<|.ref a) (.cons rfl .nil)<|Dx H hO hS) λr s' h=>?_;cases r with
    |error e=>exact(JX H e s' h).elim
    |ok fl=>
      cases fl with
      |next=>exact False.elim h
      |brk=>exact False.elim h
      |cont=>exact False.elim h
      |ret u=>
        obtain⟨v,H',os,bare,un,Ku,r',q⟩:=h;have q':v=.bl Â:=q;subst q';obtain rfl:u=cJ.bool Â:=r';refine⟨rfl,OldK.of_keep λb o e=>?_,os,bare⟩;cases q:H b with
        |none=>exact un.keep b o e q (by intro z;exact absurd (show b∈([]:List cN)from z) (by simp)) (by simp)
        |some u=>
          rcases hO b with z|⟨ob,xs,z⟩
          · rw[q]at z;cases z
          · have z2:=un.frzs b ob _ z;obtain⟨e1,_⟩:=hok b _ z;obtain⟨L,_⟩:=Ku b _ z2;rw[e]at e1;cases e1;exact L
  cases hk:K.lookup a with
  |some o=>have e:=KX a o hk;rw[ha]at e;cases e;refine core (λ_=>G) (λ_=>.inl rfl) (.inr ⟨_,vs.toArray,_,hk,rfl,rfl,rfl,by rw[de,K3];exact hl,by simpa using rv⟩) (λb u z=>by have z':(G:Option HO)=U u:=z;cases z') (λb z=>absurd rfl z) λz=>absurd rfl z
  |none=>
    refine core (λb=>if b=a then U (.frz { cls:=.type "list",data:=.seq vs.toArray } (.lst<|ns.map V.int))else G) (λb=>?_) (.inl<|.inr ⟨{ cls:=.type "list",data:=.seq vs.toArray },if_pos rfl⟩) (λb u z=>?_) (λb z=>?_) λ_=>hk
    · by_cases hb:b=a
      · exact .inr ⟨_,_,if_pos hb⟩
      · exact .inl<|if_neg hb
    · by_cases hb:b=a
      · have z':=(if_pos hb).symm.trans z;cases z';subst hb;exact⟨ha,by rw[dr];exact hl,vs,_,rv,ha⟩
      · have z':=(if_neg hb).symm.trans z;cases z'
    · by_cases hb:b=a
      · exact hb
      · exact absurd (if_neg hb) z
theorem ü {l:sP}{n k:Nat}{q:eL}{loose:List Str}{XP:(Str->Option cJ)->c7->Prop}{YP:d8->c7->Prop}{d:DefRec}{K:Params->cL}{CX:d8->Cj}{sp:d8->Sp}
  (hn:l.most=U n) (Dv:n<=sizeLine) (Gm:d.params.defaults=[]) (hr:gu k uG)
  (hY:∀(w:d8) (h:c7),YP w h->(K w.params).In h)
  (F:∀(w:d8) (mg:Str->Option cJ) (fa:cN) (h:c7),(K w.params).In h->h.Ns eI mg->mg d.name=U (.ref fa) ->
   ∃fd:cT,(∀(s:cU) (u:cJ),uF s fd ⟨[u],[]⟩ [(x,u)]) /\
    ∀base:c7,(K w.params).In base->base.Ns eI mg->dR l.prog w (K w.params) mg base (CX w) k fa fd [x] (sp w))
  (Dx:∀(w:d8) (H:Hp) (a:cN) (ns:List Int),ns.length<=n->DV H->iE (K w.params) H a (ns.map V.int)->sp w [.ref a] H (λv _=>v=.bl Â) λ_ _ _=>False)
  (JX:∀(w:d8) (H:Hp) (s:cU) (e:cJ) (s':cU),CX w [] H s (λ_ _ _=>False) e s'->False) :
  Bi q loose XP YP l.row.toRowW d [] (λf vs=>PySem.call f vs):=by
 refine Att.attach_call hn Gm λw s₀ s₁ mg mb fa o pm cd doc a vs ns V' Y' ho hd kT hmg Ed Bx lO hg=>?_;have KX:=hY w _ Y';obtain⟨fd,hb,hF⟩:=F w mg fa _ KX V'.T.g hmg;exact ZC KX V'.T.g V'.T.b V'.T.builtins V'.T.nolimit hg Ed Bx (eQ lO Dv) hr hF hb (λH hO hS=>Dx w H a ns lO hO hS) λH e s'=>JX w H s₁ e s'
noncomputable def Ô (s:eo)(j:Nat):eo:=match s with
 |.ClassDef _ _ _ body _ _ _ _ _ _ _=>body.getD j<|.Pass ⟨0,0,0,0⟩
 |_=>.Pass ⟨0,0,0,0⟩
noncomputable def mj (s:eo):Arguments:=match s with
  |.FunctionDef _ a _ _ _ _ _ _ _ _=>a
  |_=>{ posonlyargs:=[],args:=[],vararg:=none,kwonlyargs:=[],kw_defaults:=[],kwarg:=none,defaults:=[] }
def iT (s:eo):List eo:=match s with
 |.FunctionDef _ _ b _ _ _ _ _ _ _=>b
 |_=>[]
def dS (s:eo):rY:=match s with
  |.FunctionDef _ _ _ _ _ _ sc _ _ _=>sc
  |_=>{ kind:=.function,names:=[],isGenerator:=false,isCoroutine:=false }
abbrev fQ:Cj:=λ_ _ _ _ _ _=>False
abbrev E0:XK:=λ_ _ _=>False
variable {X:Cx}
theorem qN:nz fQ X E0:=λ_ _ _ _ _ _ _ h=>h.elim
theorem C2 {A:d6}{k:Nat}(hr:gu k A):A.units+1<lS:=rV (Nat.add_le_add_left (by decide:1<=64) _) hr.units
theorem AR {n:Nat}(h:n<=1000):n<sizeLine:=rV h (by decide)
def ej (H H':Hp):Prop:=∀b o,H b=U o->H' b=U o
theorem ej.refl (H:Hp):ej H H:=λ_ _ h=>h
variable {H:Hp}
theorem ej.trans {H1 H2:Hp}(a:ej H H1)(b:ej H1 H2):ej H H2:=λc o h=>b c o<|a c o h
variable {H':Hp}
theorem ej.free (e:ej H H'){l:cN}(h:H' l=Option.none):H l=Option.none:=by
 cases q:H l with
 |none=>rfl
 |some o=>rw[e l o q]at h;cases h
variable {xs:List V}
theorem ej.seq {K:cL}{a:cN}(e:ej H H')(h:iE K H a xs):iE K H' a xs:=by
 rcases h with(h|⟨o,h⟩)|h
 ·exact .inl<|.inl<|e _ _ h
 ·exact .inl<|.inr ⟨o,e _ _ h⟩
 ·exact .inr h
noncomputable def SD (a KK:cN)(dx tb:Option cN)(h:c7):Prop :=
  ∃a0,h.get? a=U { cls:=.ref KK,dict:=dx,data:=.fields #[a0,tb.elim cJ.none .ref,.none,.none,.bool Ã,.none] }
abbrev OA (a KK:cN)(dx tb:Option cN):HO:=.ext<|SD a KK dx tb
variable {KK:cN}{L':Model}{cM:List (cN×gz)}{s:cU}{Z:St}
abbrev GK:=St->cN->Hp->Prop
variable {fL p pos:mR}{O:List cJ}{nP:List V}{e o:Expr}{es:List Expr}{f:cN}{m:Str}{ps:List Str}{ta:TE}
variable {R:Result->cU->Prop}{ab:Bool}{bm sub:List cJ}{col:Option Bool}{dd:Option cN}{h:c7}{k0 k1 k2 k3 k5:Option cJ}{nm:Str}{sn:List Str}
variable {E:cJ->cU->Prop}
variable {name:Str}
variable {te:TE}
variable {κ:Type}{u:cJ}{y:V}
section
variable [DecidableEq κ]
noncomputable def ox (fm:List<|κ×V)(k:κ):Option V:=(fm.find? λkv=>decide<|kv.1=k).map (·.2)
noncomputable def æ (fm:List<|κ×V)(k:κ)(v:V):List (κ×V) :=
 if(fm.any λkv=>decide<|kv.1=k)=Â then fm.map (λkv=>if kv.1=k then(kv.1,v)else kv)else fm++[(k,v)]
theorem L9 {p:κ×V}{r:List (κ×V)}{k:κ}(e:p.1=k):ox (p::r) k=U p.2:=by simp[ox,fE,e]
theorem Ma {p:κ×V}{r:List (κ×V)}{k:κ}(e:¬p.1=k):ox (p::r) k=ox r k:=by simp[ox,fE,e]
theorem PV (k:κ):∀fm:List (κ×V),(fm.any λkv=>decide<|kv.1=k)=(ox fm k).isSome
 |[]=>rfl
 |p::r=>by
  rw[kJ];by_cases e:p.1=k
  ·simp only[L9 e,decide_eq_true e,Bool.true_or,Option.isSome_some]
  ·rw[Ma e,decide_eq_false e,Bool.false_or];exact PV k r
theorem OK (fm:List<|κ×V)(k:κ)(v:V):(æ fm k v).length<=fm.length+1:=by
 unfold æ;split
 ·rw[dr];lia
 ·rw[ee,cX,List.length_nil];lia
theorem oS.isSome_eq {o:Option V}{u:Option cJ}(r:oS o u):o.isSome=u.isSome:=by
 cases o with
 |none=>cases u with
  |none=>rfl
  |some _=>exact(show False from r).elim
 |some _=>cases u with
  |none=>exact(show False from r).elim
  |some _=>rfl
theorem oS.getD {o:Option V}{u:Option cJ}{d:V}{d':cJ}(r:oS o u)(rd:Ì d d'):Ì (o.getD d) (u.getD d'):=by
 cases o with
 |none=>cases u with
  |none=>exact rd
  |some _=>exact(show False from r).elim
 |some _=>cases u with
  |none=>exact(show False from r).elim
  |some _=>exact r
theorem KV.val {fm:List (κ×V)}{vs:List (κ×cJ)}(r:KV fm vs)(k:κ):oS (ox fm k) (uJ vs k):=by
 unfold KV at r;induction r with
 |nil=>exact True.intro
 |@cons p q ps qs h t ih=>
  obtain⟨h1,h2⟩:=h;by_cases e:p.1=k
  ·have e':q.1=k:=h1.symm.trans e;have b:uJ (q::qs) k=U q.2:=by simp[uJ,fE,e']
   rw[L9 e,b];exact h2
  ·have e':¬q.1=k:=λz=>e<|h1.trans z;have b:uJ (q::qs) k=uJ qs k:=by simp[uJ,fE,e']
   rw[Ma e,b];exact ih
theorem KV.any {fm:List (κ×V)}{vs:List (κ×cJ)}(r:KV fm vs)(k:κ):(fm.any λkv=>decide<|kv.1=k)=vs.any λkv=>decide (kv.1=k):=by
 unfold KV at r;induction r with
 |nil=>rfl
 |cons h t ih=>rw[kJ,kJ,ih,h.1]
theorem KV.repl {fm:List (κ×V)}{vs:List (κ×cJ)}(r:KV fm vs)(k:κ)(ry:Ì y u) :
  KV (fm.map λkv=>if kv.1=k then(kv.1,y)else kv) (vs.map λkv=>if kv.1=k then(kv.1,u)else kv):=by
 unfold KV at r ⊢;induction r with
 |nil=>exact .nil
 |@cons p q ps qs h t ih=>
  rw[dC,dC];refine .cons ?_ ih;obtain⟨h1,h2⟩:=h;by_cases e:p.1=k
  ·rw[if_pos e,if_pos<|h1.symm.trans e];exact⟨h1,ry⟩
  ·rw[if_neg e,if_neg<|λz=>e<|h1.trans z];exact⟨h1,h2⟩
theorem KV.put {fm:List (κ×V)}{vs:List (κ×cJ)}(r:KV fm vs)(k:κ)(ry:Ì y u):KV (æ fm k y) (stored vs k u):=by
 unfold æ stored;rw[r.any k];by_cases e:(vs.any λkv=>decide<|kv.1=k)=Â
 ·rw[if_pos e,if_pos e];exact r.repl k ry
 ·rw[if_neg e,if_neg e];exact Paired.snoc r ⟨rfl,ry⟩
theorem KV.length {fm:List (κ×V)}{vs:List (κ×cJ)}(r:KV fm vs):fm.length=vs.length:=Paired.length r
end
theorem FE {w:d8}{k:kL}(r:Ì (kV k) u):(hZ P w).is k u=Â:=by
 cases k with
 |inl i=>obtain⟨t,e⟩:=(show∃t,u=cJ.int i t from r);subst e;exact Xk P w i t
 |inr x=>obtain⟨t,e⟩:=(show∃t,u=cJ.str x t from r);subst e;exact Xl P w x t
theorem O9 {P:eL}{w:d8}:∀{ks:List kL} {us:List cJ},ez (ks.map kV) us->ItemsAre (hZ P w) ks us
 |[],_,r=>by rw[si]at r;cases r;exact .nil
 |k::ks,_,r=>by
  rw[dC]at r;cases r with
  |cons h t=>exact .cons (FE h)<|O9 t
abbrev KT (H:Hp):List (List kL×V)->List (List kL×cN×cJ)->Prop:=Paired λp q=>p.1=q.1/\H q.2.1=U (.tup<|p.1.map kV)/\Ì p.2 q.2.2
variable {fm:List (List kL×V)}
theorem KT.val {xs:List (List kL×cN×cJ)}(r:KT H fm xs)(k:List kL):oS (ox fm k) ((yC xs k).map (·.2)):=by
 induction r with
 |nil=>exact True.intro
 |@cons p q ps qs h t ih=>
  obtain⟨h1,_,h2⟩:=h;by_cases e:p.1=k
  ·have e':q.1=k:=h1.symm.trans e;have b:yC (q::qs) k=U q.2:=by simp[yC,fE,e']
   rw[L9 e,b];exact h2
  ·have e':¬q.1=k:=λz=>e<|h1.trans z;have b:yC (q::qs) k=yC qs k:=by simp[yC,fE,e']
   rw[Ma e,b];exact ih
theorem KT.repl {xs:List (List kL×cN×cJ)}(r:KT H fm xs)(k:List kL)(ry:Ì y u) :
  KT H (fm.map λkv=>if kv.1=k then(kv.1,y)else kv) (xs.map<|putAt k u):=by
 induction r with
 |nil=>exact .nil
 |@cons p q ps qs h t ih=>
  rw[dC,dC];refine .cons ?_ ih;obtain⟨h1,h2,h3⟩:=h;unfold putAt;by_cases e:p.1=k
  ·rw[if_pos e,if_pos<|h1.symm.trans e];exact⟨h1,h2,ry⟩
  ·rw[if_neg e,if_neg<|λz=>e<|h1.trans z];exact⟨h1,h2,h3⟩
variable {b:cN}
theorem KT.put {xs:List (List kL×cN×cJ)}(r:KT H fm xs)(k:List kL)(hb:H b=U (.tup<|k.map kV))(ry:Ì y u) :
  KT H (æ fm k y) (storedH xs k b u):=by
 have e:(fm.any λkv=>decide<|kv.1=k)=(yC xs k).isSome:=by rw[PV,(r.val k).isSome_eq,zZ]
 unfold æ storedH;rw[e];by_cases q:(yC xs k).isSome=Â
 ·rw[if_pos q,if_pos q];exact r.repl k ry
 ·rw[if_neg q,if_neg q];exact Paired.snoc r ⟨rfl,hb,ry⟩
theorem KT.keeps {xs:List (List kL×cN×cJ)}(r:KT H fm xs)(ht:∀b ys,H b=U (.tup ys)->H' b=U (.tup ys)):KT H' fm xs :=
 Paired.mapP r λ_ _ z=>⟨z.1,ht _ _ z.2.1,z.2.2⟩
section
variable {w:d8}{a:cN}
theorem RY {u:HO}(ok:rn P w H h)(e:Rd H a u):hV P w H h a u:=e.ok ok
theorem DR {fm:List (kL×V)}(ok:rn P w H h)(e:Rd H a<|.dK fm):fm.length<=sizeLine/\(a==gK)=Ã/\∃vs,KV fm vs/\h.DictOf (hZ P w) a vs :=
 show hV P w H h a (.dK fm)from RY ok e
theorem ĵ {fm:List (kL×V)}(ok:rn P w H h)(e:H a=U (.dK fm)):fm.length<=sizeLine/\(a==gK)=Ã/\∃vs,KV fm vs/\h.DictOf (hZ P w) a vs:=DR ok<|.inl e
theorem Ft {ks:List kL}(ok:rn P w H h)(e:H a=U (.tup<|ks.map kV)):(pT<|hZ P w).is h ks a:=by obtain⟨_,eE,r,o,h1,h2,n,h3⟩:=(show hV P w H h a (.tup<|ks.map kV)from ok a _ e);exact⟨o,eE.toArray,n,h1,h2,h3,by simpa using O9 r⟩
theorem EX (ok:rn P w H h)(e:Rd H a<|.dT fm):fm.length<=sizeLine/\(a==gK)=Ã /\
  ∃xs,KT H fm xs/\h.DictOfH (pT<|hZ P w) a xs:=by
 obtain⟨z,y,xs,r,o,es,ep,h1,h2,h3,h4,h5⟩:=(show hV P w H h a (.dT fm)from RY ok e);refine⟨z,y,xs,r,o,es,ep,h1,h2,h3,h4,λx hx=>?_,h5⟩;have all:∀{l:List (List kL×V)} {m:List (List kL×cN×cJ)},KT H l m->∀x∈m,(pT<|hZ P w).is h x.1 x.2.1:=by
  intro l m q;induction q with
  |nil=>intro x hx;exact nomatch hx
  |@cons p q ps qs hq t ih=>
   intro x hx;rcases cP.mp hx with e|hx
   ·subst e;exact Ft ok (by rw[←hq.1];exact hq.2.1)
   ·exact ih x hx
 exact all r x hx
theorem Ĵ (ok:rn P w H h)(e:H a=U (.dT fm)):fm.length<=sizeLine/\(a==gK)=Ã /\
  ∃xs,KT H fm xs/\h.DictOfH (pT<|hZ P w) a xs:=EX ok<|.inl e
end
def sv (H:Hp)(a:cN)(y:V)(r:Option V):Prop :=
 (∃fm k,Rd H a (.dK fm)/\y=kV k/\r=ox fm k)\/∃fm k b,Rd H a (.dT fm)/\y=.ref b/\H b=U (.tup<|k.map kV)/\r=ox fm k
def xE (H:Hp)(a:cN)(y v:V)(H':Hp):Prop :=
 (∃fm k,H a=U (.dK fm)/\y=kV k/\fm.length<sizeLine/\H'=upd H a (.dK<|æ fm k v)) \/
 ∃fm k b,H a=U (.dT fm)/\y=.ref b/\H b=U (.tup<|k.map kV)/\fm.length<sizeLine/\H'=upd H a (.dT<|æ fm k v)
theorem sv.k {a:cN}{fm:List (kL×V)}{k:kL}(e:H a=U (.dK fm)):sv H a (kV k) (ox fm k):=.inl ⟨fm,k,.inl e,rfl,rfl⟩
theorem xE.k {a:cN}{fm:List (kL×V)}{k:kL}{v:V}(e:H a=U (.dK fm))(hl:fm.length<sizeLine):xE H a (kV k) v (upd H a<|.dK<|æ fm k v):=.inl ⟨fm,k,e,rfl,hl,rfl⟩
theorem xE.t {a:cN}{k:List kL}{v:V}(e:H a=U (.dT fm))(eb:H b=U (.tup<|k.map kV))(hl:fm.length<sizeLine) :
  xE H a (.ref b) v (upd H a<|.dT<|æ fm k v):=.inr ⟨fm,k,b,e,rfl,eb,hl,rfl⟩
variable {Q:cJ->cU->Prop}{h':c7}{t':Nat}
section
variable {a:cN}{v:V}{r:cJ}{o:Option V}{A:d6}
theorem Ê.big (I:Ê X cM Z H s):gK<s.heap.objs.size:=by have h:eI<s.heap.objs.size:=(I.mod.glob.keeps I.bk).lt;exact Nat.lt_trans (by decide) h
theorem YM (hu:A.units+1<lS)(I:Ê X cM Z H s)(g:sv H a y<|U v)(ry:Ì y u)(h:∀w' s',Ê X cM Z H s'->Ì v w'->Q w' s') :
  dg (dz X.prog X.w) A (su (.ref a) u) Q E s:=by
 rcases g with⟨fm,k,e,ey,l⟩|⟨fm,k,b,e,ey,eb,l⟩
 ·subst ey;obtain⟨z,hd,vs,rel,dd⟩:=DR I.hok e;obtain⟨w',hw,uY⟩:=oS.some_of (v:=v) (o:=uJ vs k) (by rw[l];exact rel.val k);exact wpAny_getItem_of (FE ry) dd.mapOf hw<|h w' _ (I.tok _) uY
 ·subst ey;cases(show u=cJ.ref b from ry);obtain⟨z,hd,xs,rel,dd⟩:=EX I.hok e;obtain⟨w',hw,uY⟩:=oS.some_of (v:=v) (o:=(yC xs k).map (·.2)) (by rw[l];exact rel.val k);obtain⟨p,hp,HZ⟩:=kX.mp hw;refine wpAny_getItem_heap (lB hu) (Ft I.hok eb) dd hp ?_;rw[HZ];exact h w' _ (I.tok _) uY
theorem JO (hu:A.units+1<lS)(I:Ê X cM Z H s)(g:sv H a y o)(ry:Ì y u)(h:∀s',Ê X cM Z H s'->Q (.bool o.isSome) s') :
  dg (dz X.prog X.w) A (eX .In u<|.ref a) Q E s:=by
 rcases g with⟨fm,k,e,ey,l⟩|⟨fm,k,b,e,ey,eb,l⟩
 ·subst ey;obtain⟨z,hd,vs,rel,dd⟩:=DR I.hok e;refine wpAny_in_of (FE ry) hd dd.mapOf ?_;rw[←(rel.val k).isSome_eq,←l];exact h _<|I.tok _
 ·subst ey;cases(show u=cJ.ref b from ry);obtain⟨z,hd,xs,rel,dd⟩:=EX I.hok e;refine wpAny_in_heap (lB hu) (Ft I.hok eb) hd dd ?_;have q:=(rel.val k).isSome_eq;rw[zZ]at q;rw[←q,←l];exact h _<|I.tok _
theorem QF {ob:HO}(I:Ê X cM Z H s)(mu:FK<|H a)(hs:fe a s.heap h')(he:∃q,h'.get? a=U q)(new:hV X.prog X.w (upd H a ob) h' a ob) :
  Ê X cM Z (upd H a ob) { s with heap:=h',toks:=t' } :=
 I.write (x:=a) (e:=a) mu (.inl rfl) (λb q hb z=>(hs.2 b hb).trans z) he new
theorem yX {w:d8}{fm:List (kL×V)}{vs:List (kL×cJ)}(z:fm.length<=sizeLine)(hd:(a==gK)=Ã)(rel:KV fm vs)(dd:h'.DictOf (hZ P w) a vs) :
  hV P w H' h' a (.dK fm):=⟨z,hd,vs,rel,dd⟩
theorem YN {Q:Unit->cU->Prop}(hu:A.units+1<lS)(I:Ê X cM Z H s)(g:xE H a y v H')(ry:Ì y u)(rv:Ì v r)(h:∀s',Ê X cM Z H' s'->Q () s') :
  dg (dz X.prog X.w) A (xB (.ref a) u r) Q E s:=by
 rcases g with⟨fm,k,e,ey,l,eH⟩|⟨fm,k,b,e,ey,eb,l,eH⟩
 ·subst ey eH;obtain⟨z,hd,vs,rel,dd⟩:=ĵ I.hok e;have hz:vs.length<=sizeLine:=by rw[←rel.length];exact z
  have hl:(æ fm k v).length<=sizeLine:=by have:=OK fm k v;lia
  refine wpAny_setItem_pairs (hsz:=hz) (FE ry) dd λh' HK hs=>h _ ?_;have he:∃q,h'.get? a=U q:=let⟨q,_,_,hq,_⟩:=HK;⟨q,hq⟩;exact QF I (by rw[e];exact True.intro) hs he<|yX hl hd (rel.put k rv) HK
 ·subst ey eH;cases(show u=cJ.ref b from ry);obtain⟨z,hd,xs,rel,dd⟩:=Ĵ I.hok e;have hz:xs.length<=sizeLine:=by rw[←Paired.length rel];exact z
  have hl:(æ fm k v).length<=sizeLine:=by have:=OK fm k v;lia
  refine wpAny_setItem_heap (hsz:=hz) (lB hu) (Ft I.hok eb) dd λh' HK hs=>h _ ?_;obtain⟨q,es,ep,hq,h2,h3,h4,_,h5⟩:=HK;refine QF I (by rw[e];exact True.intro) hs ⟨q,hq⟩ ⟨hl,hd,_,(rel.put k eb rv).keeps λc ys ec=>?_,q,es,ep,hq,h2,h3,h4,h5⟩;rw[zo<|Ľ ec e<|λz=>nomatch z];exact ec
end
section
variable {a:cN}{fm:List (kL×V)}{k:kL}{A:d6}
theorem œ (I:Ê X cM Z H s)(e:Rd H a<|.dK fm)(h:∀t s',Ê X cM Z H s'->Q (.int fm.length t) s'):dg (dz X.prog X.w) A (call (.builtin "len") [.ref a]) Q E s:=by obtain⟨z,hd,vs,rel,dd⟩:=DR I.hok e;refine call_len_dict hd dd (by rw[←rel.length];rw[dW]at z;lia) ?_;rw[←rel.length];exact h _ _<|I.tok _
end
def yS (i:Expr):Prop:=∀ov iv,vQ i Ã ov iv=operate [ov,iv] (su ov iv)
variable {T:String}{value:Expr}
theorem MA {prog:eL}{w:d8}{A:d6}{env:Env}{slice:Expr}{id:String}
  (hl:yF (.type T) "__getitem__"=pure (U<|.builtin id)) (hs:yS slice)
  (h:dg (dz prog w) A (eW value env) (λo s₁=>dg (dz prog w) A (eW slice env) (λi s₂=>s₂.TypeIs o T/\dg (dz prog w) A (su o i) Q E s₂) E s₁) E s) :
  dg (dz prog w) A (eW (.Subscript value slice pos) env) Q E s:=by
 refine Subscript_<|gb h (λo s₁ h₁=>gb h₁ (λi s₂ h₂=>?_) λ_ _ x=>x) λ_ _ x=>x;obtain⟨hT,h₂⟩:=h₂;unfold subscriptTail;refine cO ?_;rw[getitemInPython_of_ne hT.not_modules];refine cO<|wK hT hl ?_;have fin:dg (dz prog w) A (vQ slice Ã o i) (λr s₃=>dg (dz prog w) A (letTemporaryGo value o r >>= λ_=>pure r) Q E s₃) E s₂:=by rw[hs o i];exact wpAny_operating<|gb h₂ (λr s₃ h₃=>cO<|wpAny_letTemporaryGo<|dw h₃) λ_ _ x=>x
 first
  |exact dw<|cO fin
  |exact cO<|dw<|cO fin
  |exact cO fin
theorem Xo {a:cN}{o:Option V}(I:Ê X cM Z H s)(g:sv H a y o):s.TypeIs (.ref a) "dict":=by
 rcases g with⟨fm,k,e,_,_⟩|⟨fm,k,b,e,_,_,_⟩
 ·obtain⟨_,_,vs,_,dd⟩:=DR I.hok e;exact dd.typeIs
 ·obtain⟨_,_,xs,_,dd⟩:=EX I.hok e;exact dd.typeIs
def He (td ty:TE):TE:=λZ H Q=>td Z H λx H1=>ty Z H1 λy H2=>∃a v,x=.ref a/\sv H2 a y (U v)/\Q v H2
def Ls (ty td:TE):TE:=λZ H Q=>ty Z H λy H1=>td Z H1 λx H2=>∃a o,x=.ref a/\sv H2 a y o/\Q (.bl o.isSome) H2
def Ha (td ty tv:TE):TS:=λD Z H=>tv Z H λv H1=>td Z H1 λx H2=>ty Z H2 λy H3=>∃a H4,x=.ref a/\xE H3 a y v H4/\D.nx Z H4
variable {pos' qY:mR}{ty:TE}
section
variable {i:Expr}{td tv:TE}
theorem ztn (hu:X.A.units+1<lS)(ho:PE X o td)(hi:PE X i ty)(hs:yS i):PE X (.Subscript o i pos) (He td ty):=by intro cM s Z H Q I h;refine MA PySem.F.slot_dict_getitem.lookup hs<|gc (ho cM s Z H _ I h) λu s1 ⟨x,H1,I1,rx,q1⟩=>gc (hi cM s1 Z H1 _ I1 q1) λiv s2 gR=>?_;obtain⟨y,H2,I2,ry,a,v,ex,g,q2⟩:=gR;subst ex;obtain rfl:u=cJ.ref a:=rx;exact⟨Xo I2 g,YM hu I2 g ry λw' s3 I3 uY=>⟨v,H2,I3,uY,q2⟩⟩
theorem Ϛ (hu:X.A.units+1<lS)(hi:PE X i ty)(ho:PE X o td):PC X .In i o (Ls ty td):=by intro cM s Z H Q I h;refine gc (hi cM s Z H _ I h) λiv s1 ⟨y,H1,I1,ry,q1⟩=>gc (ho cM s1 Z H1 _ I1 q1) λu s2 gR=>?_;obtain⟨x,H2,I2,rx,a,ov,ex,g,q2⟩:=gR;subst ex;obtain rfl:u=cJ.ref a:=rx;exact JO hu I2 g ry λs3 I3=>⟨.bl ov.isSome,H2,I3,rfl,q2⟩
theorem zto (hu:X.A.units+1<lS)(ho:PE X o td)(hi:PE X i ty)(hv:PE X value tv)(hs:gk value (U<|.Subscript o i pos') pos.line X.env=pure Ã) :
  PS X (.Assign [.Subscript o i pos'] value pos) (Ha td ty tv):=by
 intro cM s Z H D I h;refine wpAny_Assign_Subscript (gc (hv cM s Z H _ I h) λr s1 ⟨v,H1,I1,rv,q1⟩=>gc (ho cM s1 Z H1 _ I1 q1) λu s2 ⟨x,H2,I2,rx,q2⟩=>gc (hi cM s2 Z H2 _ I2 q2) λiv s3 hq=>?_) hs;obtain⟨y,H3,I3,ry,a,H4,ex,g,q3⟩:=hq;subst ex;obtain rfl:u=cJ.ref a:=rx;exact YN hu I3 g ry rv λs4 I4=>⟨Z,H4,I4,q3⟩
end
theorem ZD {w:d8}(h:c7)(hb:gK<h.objs.size):hV P w H (h.push { cls:=.type "dict",data:=.dict #[] }) h.objs.size (.dK []) :=
  ⟨e8 _,beq_eq_false_iff_ne.mpr<|Ne.symm<|dB hb,[],.nil,c7.DictOf.new h⟩
theorem ZE {w:d8}(h:c7)(hb:gK<h.objs.size):hV P w H (h.push { cls:=.type "dict",data:=.dict #[] }) h.objs.size (.dT []) :=
  ⟨e8 _,beq_eq_false_iff_ne.mpr<|Ne.symm<|dB hb,[],.nil,_,#[],0,dq _ rfl,⟨rfl,rfl,rfl⟩,rfl,rfl,dZ⟩
def EO:TE:=λ_ H Q=>∀p,H p=G->Q (.ref p) (upd H p<|.dK [])
def EQ:TE:=λ_ H Q=>∀p,H p=G->Q (.ref p) (upd H p<|.dT [])
theorem ZF:PE X (.Dict [] [] pos) EO:=λcM s Z H Q I h=>wpAny_Dict_empty ⟨.ref s.heap.objs.size,_,I.laid (a:=s.heap.objs.size) (o:=.dK []) (t':=s.toks) (λ_ _ q=>cS _ q) (di _)<|ZD s.heap I.big,rfl,h _<|I.hok.fresh<|di _⟩
theorem ZG:PE X (.Dict [] [] pos) EQ:=λcM s Z H Q I h=>wpAny_Dict_empty ⟨.ref s.heap.objs.size,_,I.laid (a:=s.heap.objs.size) (o:=.dT []) (t':=s.toks) (λ_ _ q=>cS _ q) (di _)<|ZE s.heap I.big,rfl,h _<|I.hok.fresh<|di _⟩
structure M1 (X:Cx)(o:Expr)(m:Str)(fL:mR)(e:Expr)(eY:mR):Prop where
 base:yO X o m
 few:((i8 eY<|dJ [e] X.env).all (λx=>!x.1)&&(i9 eY<|fY [] X.env).all (λx=>x.1.isSome)
  && decide (([e]:List Expr).length+([]:List sm).length+(if([]:List sm).isEmpty then 0 else 1)<30))=Â
 line:(fL.endLine==eY.line)=Â
 trees:i8 eY (dJ [e] X.env)=[(Ã,eW e X.env)]
structure M2 (X:Cx)(o:Expr)(m:Str)(fL:mR)(e f:Expr)(eY:mR):Prop where
 base:yO X o m
 few:((i8 eY<|dJ [e,f] X.env).all (λx=>!x.1)&&(i9 eY<|fY [] X.env).all (λx=>x.1.isSome)
  && decide (([e,f]:List Expr).length+([]:List sm).length+(if([]:List sm).isEmpty then 0 else 1)<30))=Â
 line:(fL.endLine==eY.line)=Â
 trees:i8 eY (dJ [e,f] X.env)=[(Ã,eW e X.env),(Ã,eW f X.env)]
def EZ (H:Hp)(a:cN):Prop:=(∃fm,Rd H a<|.dK fm)\/∃fm,Rd H a (.dT fm)
theorem Rg {a:cN}(I:Ê X cM Z H s)(d:EZ H a) :
  s.TypeIs (.ref a) "dict"/\(∀b,cJ.ref a=.ref b->∃ob,s.heap.get? b=U ob/\ob.dict=G)/\(a==gK)=Ã:=by
 rcases d with⟨fm,e⟩|⟨fm,e⟩
 ·obtain⟨_,hd,vs,_,dd⟩:=DR I.hok e;refine⟨dd.typeIs,λb q=>?_,hd⟩;cases q;obtain⟨ob,_,_,h1,h2,_⟩:=dd;exact⟨ob,h1,h2.2.1⟩
 ·obtain⟨_,hd,xs,_,dd⟩:=EX I.hok e;refine⟨dd.typeIs,λb q=>?_,hd⟩;cases q;obtain⟨ob,_,_,h1,h2,_⟩:=dd;exact⟨ob,h1,h2.2.1⟩
section
variable {a:cN}{d:V}{r:cJ}{o:Option V}{A:d6}
theorem ϙ (hu:A.units+1<lS)(I:Ê X cM Z H s)(g:sv H a y o)(ry:Ì y u)(h:∀w' s',Ê X cM Z H s'->Ì (o.getD .non) w'->Q w' s') :
  dg (dz X.prog X.w) A (call (.builtin "dict.get") [.ref a,u]) Q E s:=by
 rcases g with⟨fm,k,e,ey,l⟩|⟨fm,k,b,e,ey,eb,l⟩
 ·subst ey;obtain⟨z,hd,vs,rel,dd⟩:=DR I.hok e;refine call_meetsIn PySem.F.slot_dict_get dd.typeIs PySem.F.entry_dict_get (PySem.F.args_dict_get_2 _ _) (meets_dict_get (hZ X.prog X.w) a (FE ry) hd) ⟨_,dd.mapOf,h _ _ (I.tok _) ?_⟩;rw[l];exact(rel.val k).getD rfl
 ·subst ey;cases(show u=cJ.ref b from ry);obtain⟨z,hd,xs,rel,dd⟩:=EX I.hok e;refine call_meetsIn PySem.F.slot_dict_get dd.typeIs PySem.F.entry_dict_get (PySem.F.args_dict_get_2 _ _) (meetsH_dict_get (pT<|hZ X.prog X.w) a b hd) ⟨lB hu,k,xs,Ft I.hok eb,dd,h _ _ (I.tok _) ?_⟩;rw[l];exact(rel.val k).getD rfl
theorem Ϙ (hu:A.units+1<lS)(I:Ê X cM Z H s)(g:sv H a y o)(ry:Ì y u)(rd:Ì d r)(h:∀w' s',Ê X cM Z H s'->Ì (o.getD d) w'->Q w' s') :
  dg (dz X.prog X.w) A (call (.builtin "dict.get") [.ref a,u,r]) Q E s:=by
 rcases g with⟨fm,k,e,ey,l⟩|⟨fm,k,b,e,ey,eb,l⟩
 ·subst ey;obtain⟨z,hd,vs,rel,dd⟩:=DR I.hok e;refine call_meetsIn PySem.F.slot_dict_get dd.typeIs PySem.F.entry_dict_get (PySem.F.args_dict_get_3 _ _ _) (meets_dict_get_default (hZ X.prog X.w) a (FE ry) hd r) ⟨_,dd.mapOf,h _ _ (I.tok _) ?_⟩;rw[l];exact(rel.val k).getD rd
 ·subst ey;cases(show u=cJ.ref b from ry);obtain⟨z,hd,xs,rel,dd⟩:=EX I.hok e;refine call_meetsIn PySem.F.slot_dict_get dd.typeIs PySem.F.entry_dict_get (PySem.F.args_dict_get_3 _ _ _) (meetsH_dict_get_default (pT<|hZ X.prog X.w) a b hd r) ⟨lB hu,k,xs,Ft I.hok eb,dd,h _ _ (I.tok _) ?_⟩;rw[l];exact(rel.val k).getD rd
end
def EK (td ty:TE):TE:=λZ H Q=>td Z H λx H1=>∃a,x=.ref a/\EZ H1 a/\ty Z H1 λy H2=>∃o,sv H2 a y o/\Q (o.getD .non) H2
def EN (td ty tx:TE):TE:=λZ H Q=>td Z H λx H1=>∃a,x=.ref a/\EZ H1 a/\ty Z H1 λy H2=>tx Z H2 λz H3=>∃o,sv H3 a y o/\Q (o.getD z) H3
section
variable {f:Expr}{eY:mR}{td tx:TE}
theorem ZH (hu:X.A.units+1<lS)(ho:PE X o td)(he:PE X e ty)(m:M1 X o "get" fL e eY):PE X (.Call (.Attribute o "get" fL) [e] [] eY) (EK td ty):=by intro cM s Z H Q I h;refine wpAny_Call_method m.base m.few m.line PySem.F.plainAttrs_dict PySem.F.slot_dict_get PySem.F.type_dict_get<|gc (ho cM s Z H _ I h) λu s1 gR=>?_;obtain⟨x,H1,I1,rx,a,ex,d,q1⟩:=gR;subst ex;obtain rfl:u=cJ.ref a:=rx;obtain⟨t1,t2,_⟩:=Rg I1 d;refine⟨t1,t2,?_⟩;rw[m.trees];refine Calls.callWith_builtin rfl<|Calls.evalArgs_plain<|Calls.spliced_cons<|gc (he cM s1 Z H1 _ I1 q1) λiv s2 ⟨y,H2,I2,ry,ov,g,q2⟩=>Calls.spliced_nil ?_;exact ϙ hu I2 g ry λw' s3 I3 uY=>⟨_,H2,I3,uY,q2⟩
theorem ZI (hu:X.A.units+1<lS)(ho:PE X o td)(he:PE X e ty)(hf:PE X f tx)(m:M2 X o "get" fL e f eY):PE X (.Call (.Attribute o "get" fL) [e,f] [] eY) (EN td ty tx):=by intro cM s Z H Q I h;refine wpAny_Call_method m.base m.few m.line PySem.F.plainAttrs_dict PySem.F.slot_dict_get PySem.F.type_dict_get<|gc (ho cM s Z H _ I h) λu s1 gR=>?_;obtain⟨x,H1,I1,rx,a,ex,d,q1⟩:=gR;subst ex;obtain rfl:u=cJ.ref a:=rx;obtain⟨t1,t2,_⟩:=Rg I1 d;refine⟨t1,t2,?_⟩;rw[m.trees];refine Calls.callWith_builtin rfl<|Calls.evalArgs_plain<|Calls.spliced_cons<|gc (he cM s1 Z H1 _ I1 q1) λiv s2 ⟨y,H2,I2,ry,q2⟩=>Calls.spliced_cons<|gc (hf cM s2 Z H2 _ I2 q2) λfv s3 ⟨z,H3,I3,rz,ov,g,q3⟩=>Calls.spliced_nil ?_;exact Ϙ hu I3 g ry rz λw' s4 I4 uY=>⟨_,H3,I4,uY,q3⟩
end
theorem YO:jK X (.builtin "len") (λxs H Q=>∃a fm,xs=[V.ref a]/\H a=U (.dK fm)/\Q (.int fm.length) H):=by intro cM s Z H xs us Q I r h;obtain⟨a,fm,rfl,ha,q⟩:=h;obtain⟨u,rfl,ru⟩:=tD r;cases ru;exact œ I (.inl ha) λt s' I'=>⟨.int fm.length,H,I',⟨t,rfl⟩,q⟩
def Sz (n:Nat)(i:Int):Prop:=i.natAbs<2 ^ n
theorem Sz.bits {n:Nat}{i:Int}(h:Sz n i):Builtin.Int.intBits i<=n:=by
 unfold Builtin.Int.intBits;by_cases h0:(i==0)=Â
 ·rw[if_pos h0];exact e8 _
 ·rw[if_neg h0];have hi:i.natAbs≠0:=by
   have:i≠0:=by simpa using h0
   lia
  exact Nat.succ_le_of_lt<|(qI hi).mpr h
theorem Sz.log {n:Nat}{i:Int}(h:Sz n i)(hn:0<n):i.natAbs.log2<n:=by
 by_cases hi:i.natAbs=0
 ·rw[hi];exact hn
 ·exact(qI hi).mpr h
theorem Sz.mono {n m:Nat}{i:Int}(h:Sz n i)(hm:n<=m):Sz m i:=dF h (l9 (by decide) hm)
def vE (i j:Int):Prop:=DU i j\/(Sz 100000 i/\Sz 100000 j)
theorem vE.ok {i j:Int}(h:vE i j):IntMulOk i j:=by
 rcases h with h|h
 ·exact h.ok
 ·exact IntMulOk.of_bits (eQ h.1.bits<|by decide) (eQ h.2.bits<|by decide)
theorem ztp:lU X (ik .Mult) (rI vE λi j=>.int<|i*j):=Fi λ_ _ _ _ _ _ _ hc q=>mul_int q hc.ok
theorem ZJ:lU X (ik .FloorDiv) (rI (λ_ j=>j≠0/\Sz 9000 j) λi j=>.int<|i.fdiv j) :=
 Fi λ_ _ _ _ _ _ _ hc q=>floordiv_int hc.1 q (.inl<|PyProof.noPylong_of_log2<|hc.2.log<|by decide)
theorem Ì.bool_iff {x:V}{v:cJ}{b:Bool}(r:Ì x v):(v==cJ.bool b)=decide (x=.bl b):=by
 cases x with
 |bl c=>
  cases(show v=cJ.bool c from r);by_cases h:c=b
  ·subst h;simp
  ·have h1:¬V.bl c=V.bl b:=λz=>h<|V.bl.inj z;rw[decide_eq_false h1];exact beq_eq_false_iff_ne.mpr λz=>h (by injection z)
 |non=>cases(show v=cJ.none from r);rw[decide_eq_false<|λz=>nomatch z];exact beq_eq_false_iff_ne.mpr λz=>nomatch z
 |int i=>obtain⟨t,rfl⟩:=(show∃t,v=cJ.int i t from r);rw[decide_eq_false<|λz=>nomatch z];exact beq_eq_false_iff_ne.mpr λz=>nomatch z
 |str i=>obtain⟨t,rfl⟩:=(show∃t,v=cJ.str i t from r);rw[decide_eq_false<|λz=>nomatch z];exact beq_eq_false_iff_ne.mpr λz=>nomatch z
 |byt i=>obtain⟨t,rfl⟩:=(show∃t,v=cJ.bytes i t from r);rw[decide_eq_false<|λz=>nomatch z];exact beq_eq_false_iff_ne.mpr λz=>nomatch z
 |flt i=>obtain⟨t,rfl⟩:=(show∃t,v=cJ.float i t from r);rw[decide_eq_false<|λz=>nomatch z];exact beq_eq_false_iff_ne.mpr λz=>nomatch z
 |ref i=>cases(show v=cJ.ref i from r);rw[decide_eq_false<|λz=>nomatch z];exact beq_eq_false_iff_ne.mpr λz=>nomatch z
 |ty i=>cases(show v=cJ.type i from r);rw[decide_eq_false<|λz=>nomatch z];exact beq_eq_false_iff_ne.mpr λz=>nomatch z
theorem qq {x:V}{v:cJ}{b:Bool}(r:Ì x v):plainIs v (.bool b)=Â:=by
 cases x with
 |bl c=>cases(show v=cJ.bool c from r);rfl
 |non=>cases(show v=cJ.none from r);rfl
 |int i=>obtain⟨t,rfl⟩:=(show∃t,v=cJ.int i t from r);rfl
 |str i=>obtain⟨t,rfl⟩:=(show∃t,v=cJ.str i t from r);rfl
 |byt i=>obtain⟨t,rfl⟩:=(show∃t,v=cJ.bytes i t from r);rfl
 |flt i=>obtain⟨t,rfl⟩:=(show∃t,v=cJ.float i t from r);rfl
 |ref i=>cases(show v=cJ.ref i from r);rfl
 |ty i=>cases(show v=cJ.type i from r);rfl
theorem ϗ:lU X (eX .Is) (λx y H Q=>∃b,y=.bl b/\Q (.bl<|decide<|x=.bl b) H):=by intro cM s Z H x y v u Q I rx ry h;obtain⟨b,rfl,q⟩:=h;cases ry;exact wpAny_is_plain (qq rx)<|Jg I q (Ì.bool_iff rx).symm
theorem YQ:lU X (eX .IsNot) (λx y H Q=>∃b,y=.bl b/\Q (.bl<|!decide (x=.bl b)) H):=by intro cM s Z H x y v u Q I rx ry h;obtain⟨b,rfl,q⟩:=h;cases ry;exact wpAny_isNot_plain (qq rx) (Jg I q<|by rw[Ì.bool_iff rx])
theorem ZK:jK X (.builtin "isinstance") (λxs H Q=>∃x c t b,xs=[x,.ty c]/\qT X.K H x t/\iG X.K t (.type c)=U b/\Q (.bl b) H):=by intro cM s Z H xs us Q I r h;obtain⟨x,c,t,b,rfl,ty,e,q⟩:=h;obtain⟨u,w',rfl,ru,uY⟩:=õ r;cases(show w'=cJ.type c from uY);exact Pb I ru ty e λtk=>⟨.bl b,H,I.tok tk,rfl,q⟩
theorem YR:jK X (.builtin "isinstance") (λxs H Q=>∃x KK t b,xs=[x,.ref KK]/\qT X.K H x t/\iG X.K t (.ref KK)=U b/\Q (.bl b) H):=by intro cM s Z H xs us Q I r h;obtain⟨x,c,t,b,rfl,ty,e,q⟩:=h;obtain⟨u,w',rfl,ru,uY⟩:=õ r;cases(show w'=cJ.ref c from uY);exact Pb I ru ty e λtk=>⟨.bl b,H,I.tok tk,rfl,q⟩
mutual
inductive Dt (K:cL)(H:Hp):V->dD->Prop
 |non:Dt K H .non .none
 |bl (b:Bool):Dt K H (.bl b) (.bool b)
 |int (i:Int):Dt K H (.int i) (.int i)
 |str (x:Str):Dt K H (.str x) (.str x)
 |lst {a:cN} {xs:List V} {O:List dD}:iE K H a xs->â K H xs O->Dt K H (.ref a) (.list O)
 |tup {a:cN} {xs:List V} {O:List dD}:pX K H a xs->â K H xs O->Dt K H (.ref a) (.tuple O)
inductive â (K:cL)(H:Hp):List V->List dD->Prop
 |nil:â K H [] []
 |cons {v:V} {d:dD} {vs:List V} {O:List dD}:Dt K H v d->â K H vs O->â K H (v::vs) (d::O)
end
mutual
theorem Dt.reads (I:Ê X cM Z H s):∀{v:V} {d:dD} {u:cJ},Dt X.K H v d->Ì v u->∃as,Reads s.heap u d as
 |_,_,_,.non,r=>by cases r;exact⟨_,.none⟩
 |_,_,_,.bl b,r=>by cases r;exact⟨_,.bool b⟩
 |_,_,_,.int i,r=>by obtain⟨t,rfl⟩:=r;exact⟨_,.int i t⟩
 |_,_,_,.str x,r=>by obtain⟨t,rfl⟩:=r;exact⟨_,.str x t⟩
 |_,_,_,.lst hq O,r=>by obtain⟨eE,rv,⟨o,n,e,c,_,dd⟩,_⟩:=I.list hq;obtain⟨as,ra⟩:=â.reads I O rv;cases r;exact⟨_,.list e c dd<|by simpa using ra⟩
 |_,_,_,.tup hq O,r=>by obtain⟨eE,rv,⟨o,e,c,n,dd⟩,_⟩:=I.tuple hq;obtain⟨as,ra⟩:=â.reads I O rv;cases r;exact⟨_,.tuple e c dd<|by simpa using ra⟩
theorem â.reads (I:Ê X cM Z H s):∀{vs:List V} {O:List dD} {us:List cJ},â X.K H vs O->ez vs us->∃as,ReadsAll s.heap us O as
 |_,_,_,.nil,r=>by cases r;exact⟨_,.nil⟩
 |_,_,_,.cons h t,r=>by
  cases r with
  |cons p q=>obtain⟨as,ra⟩:=Dt.reads I h p;obtain⟨bs,rb⟩:=â.reads I t q;exact⟨_,.cons ra rb⟩
end
def EC (K:cL)(neg:Bool):R2:=λx y H Q=>∃d e,Dt K H x d/\Dt K H y e/\d.canLay0=Â/\e.canLay0=Â/\min d.depth e.depth<=60/\Q (.bl<|if neg then !dD.eqv d e else dD.eqv d e) H
theorem Ji (hu:X.A.units+64<lS):lU X (eX .Eq) (EC X.K Ã):=by intro cM s Z H x y v u Q I rx ry h;obtain⟨d,e,hd,he,c1,c2,dp,q⟩:=h;obtain⟨as,ra⟩:=hd.reads I rx;obtain⟨bs,rb⟩:=he.reads I ry;exact SeqAt.compareEq_reads ra rb c1 c2 (by lia) ⟨.bl _,H,I,rfl,q⟩
theorem qr (hu:X.A.units+64<lS):lU X (eX .NotEq) (EC X.K Â):=by intro cM s Z H x y v u Q I rx ry h;obtain⟨d,e,hd,he,c1,c2,dp,q⟩:=h;obtain⟨as,ra⟩:=hd.reads I rx;obtain⟨bs,rb⟩:=he.reads I ry;exact SeqAt.compareNe_reads ra rb c1 c2 (by lia) ⟨.bl _,H,I,rfl,q⟩
theorem wm {p:cN}(h:H p=G)(o:HO):ej H (upd H p o):=λb u q=>by rw[zo<|z7 q h];exact q
theorem gu.u64 {k:Nat}{A:d6}(r:gu k A):A.units+64<lS:=r.units
theorem ò {n:Nat}(h:n<=1000):n<=sizeLine:=sN<|AR h
section
open PySem
theorem x9:eP "int"=U (.type "int"):=by decide +kernel
theorem xi:eP "str"=U (.type "str"):=by decide +kernel
theorem ztq:eP "bool"=U (.type "bool"):=by decide +kernel
theorem Ht:eP "list"=U (.type "list"):=by decide +kernel
theorem Rh:eP "len"=U (.builtin "len"):=by decide +kernel
theorem qv:eP "max"=U (.builtin "max"):=by decide +kernel
theorem ja:eP "isinstance"=U (.builtin "isinstance"):=by decide +kernel
theorem YS:eP "sorted"=U (.builtin "sorted"):=by decide +kernel
theorem Fu:eP "all"=U (.builtin "all"):=by decide +kernel
end
variable {qL iter:Expr}{ifs:List Expr}{scope:rY}
section
variable {prog:eL}{w:d8}{A:d6}
theorem WR {target:Expr}{it mW:cJ}{env:Env}(I:Nat->cU->Prop)
  (zU:∀n s,I n s->dg (dz prog w) A (pyNext it) (λr s₁=>match r with
   |none=>R (.ok .next) s₁
   |some v=>dg (dz prog w) A (mY target it v) (λ_ Ol=>dg (dz prog w) A (o8 target env v) (λ_ s₂=>
     dg (dz prog w) A (forIn ifs Â λc r=>if r=Â then do let ok ← yD c env (eW c env);pure (ForInStep.yield ok)else pure (ForInStep.yield r)) (λok s₃=>
      if ok=Â then dg (dz prog w) A (eW qL env) (λx s₄=>dg (dz prog w) A (call (.builtin "list.append") [mW,x]) (λ_ s₅=>∃m,m<n/\I m s₅) (λ_ _=>False) s₄) (λ_ _=>False) s₃
      else∃m,m<n/\I m s₃) (λ_ _=>False) s₂) (λ_ _=>False) Ol) (λ_ _=>False) s₁) (λ_ _=>False) s)
  (n:Nat) (h:I n s) :
  lx (dz prog w) A (.compLoop (.ListComp qL [⟨target,iter,ifs,0⟩] scope pos) 0 it mW env) R s:=by
 have up:∀{α:Type} {m:uP α} {Q:α->cU->Prop} {E:cJ->cU->Prop} {s:cU},dg (dz prog w) A m Q (λ_ _=>False) s->dg (dz prog w) A m Q E s:=λh=>gb h (λ_ _ q=>q) λ_ _ f=>f.elim;refine codeAny_loop rfl I (λn s hI=>?_) n h;show dg _ A ((compTurn (.ListComp qL [⟨target,iter,ifs,0⟩] scope pos) 0 it mW env).onRaise (λx=>do noteFrame x env;theTreesLotGoes x)) _ _ s;refine wpAny_noted ?_;rw[compTurn_list];refine cO<|o9<|cO<|gb (up<|zU n s hI) (λr s₁ h₁=>?_) λ_ _ h'=>h';cases r with
 |none=>exact dw h₁
 |some v=>
  refine cO<|gb (up h₁) (λ_ Ol Uv=>?_) λ_ _ h'=>h';refine cO<|gb (up Uv) (λ_ s₂ h₂=>cO<|gb (up h₂) (λok s₃ h₃=>?_) λ_ _ h'=>h') λ_ _ h'=>h';cases ok with
  |false=>exact dw ⟨rfl,h₃⟩
  |true=>exact cO<|cO<|gb (up h₃) (λx s₄ h₄=>cO<|gb (up h₄) (λ_ s₅ h₅=>dw<|dw ⟨rfl,h₅⟩) λ_ _ h'=>h') λ_ _ h'=>h'
end
theorem jv {env:Env}:∀(names:List<|Str×dI) (mW:List<|Str×cN),(∀x∈names,x.2=.free->∃c,env.cells.lookup x.1=U c)->(∀y c,mW.lookup y=U c->env.cells.lookup y=U c) ->
  ∃cl,(forIn names mW λ(x:Str×dI) (cs:List<|Str×cN)=>if(x.2==dI.free)=Â then do let a ← cellOf env x.1;pure (ForInStep.yield ((x.1,a)::cs))else pure (ForInStep.yield cs):uP (List<|Str×cN))=pure cl /\
   (∀y c,cl.lookup y=U c->env.cells.lookup y=U c)/\(∀x∈names,x.2=.free->∃c,cl.lookup x.1=U c)/\∀y c,mW.lookup y=U c->∃c',cl.lookup y=U c'
 |[],mW,_,ha=>⟨mW,rfl,ha,λ_ h=>(nomatch h),λy c h=>⟨c,h⟩⟩
 |(n,k)::r,mW,hn,ha=>by
  by_cases hk:k=.free
  ·subst hk;obtain⟨c,hc⟩:=hn (n,.free) cK rfl;have e1:cellOf env n=pure c:=by unfold cellOf;rw[hc]
   have Fa:∀y d,((n,c)::mW).lookup y=U d->env.cells.lookup y=U d:=λy d h=>by
    rw[df]at h;cases hy:y==n with
    |true=>rw[hy]at h;have:y=n:=eq_of_beq hy;subst this;cases h;exact hc
    |false=>rw[hy]at h;exact ha y d h
   obtain⟨cl,h1,h2,h3,h4⟩:=jv r ((n,c)::mW) (λx hx=>hn x<|cQ _ hx) Fa;refine⟨cl,?_,h2,?_,?_⟩
   ·rw[ma];simp only[beq_self_eq_true,if_true,e1,pure_bind];exact h1
   ·intro x hx hf;rcases cP.mp hx with rfl|hx
    ·exact h4 n c (by rw[df,beq_self_eq_true])
    ·exact h3 x hx hf
   ·intro y d hy;cases hb:y==n with
    |true=>exact h4 y c (by rw[df,hb])
    |false=>exact h4 y d (by rw[df,hb];exact hy)
  ·have hb:(k==dI.free)=Ã:=by simpa using hk
   obtain⟨cl,h1,h2,h3,h4⟩:=jv r mW (λx hx=>hn x<|cQ _ hx) ha;refine⟨cl,?_,h2,?_,h4⟩
   ·rw[ma];simp only[hb,eM,if_false,pure_bind];exact h1
   ·intro x hx hf;rcases cP.mp hx with rfl|hx
    ·exact absurd hf hk
    ·exact h3 x hx hf
theorem IQ (n:Nat)(a:Str)(r:List<|Str×dI)(mW:List<|Str×cN):cellsFrom n ((a,.cell)::r) mW=cellsFrom (n+1) r ((a,n)::mW):=rfl
theorem Jl {k:dI}(hk:k≠.cell)(n:Nat)(a:Str)(r:List<|Str×dI)(mW:List<|Str×cN):cellsFrom n ((a,k)::r) mW=cellsFrom n r mW:=by cases k<;>first|rfl|exact absurd rfl hk
noncomputable def pP (names:List<|Str×dI):Nat:=(names.filter λy=>y.2==dI.cell).length
theorem MB (a:Str)(r:List<|Str×dI):pP ((a,.cell)::r)=pP r+1:=by unfold pP;rw[wH<|by rfl,cX]
theorem Ri {k:dI}(hk:k≠.cell)(a:Str)(r:List<|Str×dI):pP ((a,k)::r)=pP r:=by unfold pP;rw[wG<|by simpa using hk]
theorem FF:∀(names:List<|Str×dI) (n:Nat) (mW:List<|Str×cN) {x:Str} {c:Nat},(cellsFrom n names mW).lookup x=U c->(n<=c/\c<n+pP names/\(x,dI.cell)∈names)\/(mW.lookup x=U c/\(x,dI.cell)∉names)
 |[],_,_,_,_,h=>.inr ⟨h,by simp⟩
 |(a,k)::r,n,mW,x,c,h=>by
  by_cases hk:k=.cell
  ·subst hk;rw[IQ]at h;rcases FF r (n+1) _ h with⟨h1,h2,h3⟩|⟨h1,h2⟩
   ·refine .inl ⟨by lia,?_,cQ _ h3⟩;rw[MB];lia
   ·rw[df]at h1;cases hx:x==a with
    |true=>rw[hx]at h1;cases h1;refine .inl ⟨di _,?_,by rw[eq_of_beq hx];exact cK⟩;rw[MB];lia
    |false=>
     rw[hx]at h1;refine .inr ⟨h1,λz=>?_⟩;rcases cP.mp z with z|z
     ·cases z;simp at hx
     ·exact h2 z
  ·rw[Jl hk]at h;have hf:=Ri hk a r;rw[hf];rcases FF r n _ h with⟨h1,h2,h3⟩|⟨h1,h2⟩
   ·exact .inl ⟨h1,h2,cQ _ h3⟩
   ·refine .inr ⟨h1,λz=>?_⟩;rcases cP.mp z with z|z
    ·cases z;exact hk rfl
    ·exact h2 z
theorem MV:∀(names:List<|Str×dI) (n:Nat) (mW:List<|Str×cN) {x:Str},(x,dI.cell)∉names->(cellsFrom n names mW).lookup x=mW.lookup x
 |[],_,_,_,_=>rfl
 |(a,k)::r,n,mW,x,h=>by
  have hr:(x,dI.cell)∉r:=λz=>h<|cQ _ z;by_cases hk:k=.cell
  ·subst hk;rw[IQ,MV r _ _ hr,df];cases hx:x==a with
   |true=>exact absurd (by rw[eq_of_beq hx];exact cK) h
   |false=>rfl
  ·rw[Jl hk,MV r _ _ hr]
theorem MW:∀(names:List<|Str×dI) (n:Nat) (mW:List<|Str×cN),(∀x y c,mW.lookup x=U c->mW.lookup y=U c->x=y)->(∀x c,mW.lookup x=U c->c<n)->∀x y c,(cellsFrom n names mW).lookup x=U c->(cellsFrom n names mW).lookup y=U c->x=y
 |[],_,_,h,_=>h
 |(a,k)::r,n,mW,h,hb=>by
  by_cases hk:k=.cell
  ·subst hk;rw[IQ];refine MW r (n+1) _ (λx y c e e'=>?_) λx c e=>?_
   ·rw[df]at e e';cases hx:x==a with
    |true=>
     rw[hx]at e;cases e;cases hy:y==a with
     |true=>rw[eq_of_beq hx,eq_of_beq hy]
     |false=>rw[hy]at e';exact absurd (hb _ _ e')<|iF _
    |false=>
     rw[hx]at e;cases hy:y==a with
     |true=>rw[hy]at e';cases e';exact absurd (hb _ _ e)<|iF _
     |false=>rw[hy]at e';exact h x y c e e'
   ·rw[df]at e;cases hx:x==a with
    |true=>rw[hx]at e;cases e;exact oy _
    |false=>rw[hx]at e;exact jJ<|hb _ _ e
  ·rw[Jl hk];exact MW r n mW h hb
theorem jw {L':Model}{A:d6}{E:cJ->cU->Prop}:∀(names:List<|Str×dI) (cells:List<|Str×cN) (s:cU) (Q:List (Str×cN)->cU->Prop),
    (∀h':c7,(∀b o,s.heap.get? b=U o->h'.get? b=U o)->(∀c,s.heap.objs.size<=c->c<s.heap.objs.size+pP names->h'.IsCell c G)->Q (cellsFrom s.heap.objs.size names cells) { s with heap:=h' }) ->
    dg L' A (forIn names cells λ(x:Str×dI) (cells:List<|Str×cN)=>if(x.2==dI.cell)=Â then do let a ← alloc { cls:=cJ.type "cell",data:=rc.cell G };pure (ForInStep.yield ((x.1,a)::cells))else pure (ForInStep.yield cells)) Q E s
  |[],cells,s,Q,h=>by have:=h s.heap (λ_ _ e=>e) (λc h1 h2=>by rw[show pP []=0 from rfl]at h2;lia);rw[qC];exact dw this
  |(a,k)::r,cells,s,Q,h=>by
    rw[ma];by_cases hk:k=.cell
    · subst hk;simp only[beq_self_eq_true,if_true,bind_assoc,pure_bind];refine cO<|wpAny_alloc ?_;have ih:=jw (L':=L') (A:=A) (E:=E) r ((a,s.heap.objs.size)::cells) { s with heap:=s.heap.push { cls:=cJ.type "cell",data:=rc.cell G } } Q (λh' k1 k2=>by
        have hz:(s.heap.push { cls:=cJ.type "cell",data:=rc.cell G }).objs.size=s.heap.objs.size+1:=gQ _ _;have:=h h' (λb o e=>k1 b o<|cS _ e) (λc h1 h2=>by
          rw[MB]at h2;by_cases hc:c=s.heap.objs.size
          · subst hc;exact⟨_,k1 _ _<|dq _ rfl,rfl⟩
          · exact k2 c (by show(s.heap.push _).objs.size<=c;rw[hz];lia) (by show c<(s.heap.push _).objs.size+_;rw[hz];lia))
        rw[IQ]at this;have e:(({ s with heap:=s.heap.push { cls:=cJ.type "cell",data:=rc.cell G } }:cU)).heap.objs.size=s.heap.objs.size+1:=hz;rw[e];exact this)
      exact ih
    · have hb:(k==dI.cell)=Ã:=by simpa using hk
      simp only[hb,eM,if_false,pure_bind];refine jw r cells s Q λh' k1 k2=>?_;have hf:=Ri hk a r;have:=h h' k1 (by rw[hf];exact k2);rw[Jl hk]at this;exact this
variable {qual:Str}
theorem WS {A:d6}{globals:cN}{closure:List (Str×cN)}{code:cJ}{out:Env}{builtins:cN}{Q:Env->cU->Prop}
    (h:∀h':c7,(∀b o,s.heap.get? b=U o->h'.get? b=U o)->h'.Ns s.heap.objs.size (λ_=>G)->(∀c,s.heap.objs.size+1<=c->c<s.heap.objs.size+1+pP scope.names->h'.IsCell c G) ->
      Q (newEnv scope s.heap.objs.size globals (cellsFrom (s.heap.objs.size+1) scope.names closure) qual G code (U out) builtins) { s with heap:=h' }) :
    dg L' A (yE scope globals closure [] qual G code (U out) builtins) Q E s:=by
  unfold yE;refine cO<|wpAny_alloc ?_;have hz:(s.heap.push { cls:=cJ.type "dict",data:=rc.dict #[] }).objs.size=s.heap.objs.size+1:=gQ _ _;refine cO<|jw scope.names closure { s with heap:=s.heap.push { cls:=cJ.type "dict",data:=rc.dict #[] } } _ λh' k1 k2=>?_;have Ij:(({ s with heap:=s.heap.push { cls:=cJ.type "dict",data:=rc.dict #[] } }:cU)).heap.objs.size=s.heap.objs.size+1:=hz;rw[Ij]at k2 ⊢;dsimp only;rw[qC];refine cO<|dw<|dw ?_;exact h h' (λb o e=>k1 b o<|cS _ e) ((c7.Ns.new s.heap _).keeps k1) k2
def nZ (X:Cx)(scope:rY)(cl:List<|Str×cN)(N:List Str)(KK:cN)(fp:List cN)(s₀:cU)(H₀:Hp):Cx :=
 { X with N:=N,s₀:=s₀,H₀:=H₀,env:=compEnvC scope cl KK X.env,outer:=X.stack,stack:=X.stack,ex:=fp,fn:=λx=>scope.names.lookup x==U .cell,pn:=[],xe:=λ_ _=>False }
structure pB (X:Cx)(scope:rY)(N:List Str)(own:Nat)(cap:List Nat):Prop where
 kind:scope.kind=.function
 cells:∀x∈scope.names,x.2=.cell->scope.names.lookup x.1=U .cell
 locs:∀x∈scope.names,x.2=.local->scope.names.lookup x.1=U .local
 free:∀x∈scope.names,x.2=.free->X.env.kindOf x.1=U .cell\/X.env.kindOf x.1=U .free
 len:N.length=own+cap.length
 caps:∀(j:Nat) (x:Str),N[own+j]?=U x->∃i,cap[j]?=U i/\X.N[i]?=U x/\(scope.names.lookup x=U .free)
variable {α β:Type}
theorem ul {α β:Type}[BEq α][LawfulBEq α]{x:α}{y:β}:∀{l:List (α×β)},l.lookup x=U y->(x,y)∈l
 |[],h=>by simp at h
 |(a,b)::r,h=>by
  rw[df]at h;cases hb:x==a with
  |true=>rw[hb]at h;cases h;rw[eq_of_beq hb];exact cK
  |false=>rw[hb]at h;exact cQ _<|ul h
theorem qw {env:Env}{x:Str}:∀{names:List (Str×dI)},names.lookup x=U .free ->
  (names.map λ(n,k)=>if(k==dI.free&&env.scope.kind==.function&&env.kindOf n==U .cell)then(n,dI.cell)else(n,k)).lookup x=U .cell \/
  (names.map λ(n,k)=>if(k==dI.free&&env.scope.kind==.function&&env.kindOf n==U .cell)then(n,dI.cell)else(n,k)).lookup x=U .free
 |[],h=>by simp at h
 |(n,k)::r,h=>by
  rw[df]at h;rw[dC];cases hx:x==n with
  |true=>
   rw[hx]at h;cases h;by_cases hc:(dI.free==dI.free&&env.scope.kind==.function&&env.kindOf n==U .cell)=Â
   ·left;simp only[hc,if_true,df,hx]
   ·right;simp only[hc,if_false,df,hx,eM]
  |false=>
   rw[hx]at h;rcases qw (env:=env) h with q|q
   ·left;by_cases hc:(k==dI.free&&env.scope.kind==.function&&env.kindOf n==U .cell)=Â
    ·simp only[hc,if_true,df,hx];exact q
    ·simp only[hc,if_false,df,hx,eM];exact q
   ·right;by_cases hc:(k==dI.free&&env.scope.kind==.function&&env.kindOf n==U .cell)=Â
    ·simp only[hc,if_true,df,hx];exact q
    ·simp only[hc,if_false,df,hx,eM];exact q
theorem jb {env:Env}{x:Str}:∀{names:List (Str×dI)},((names.map λ(n,k)=>if(k==dI.free&&env.scope.kind==.function&&env.kindOf n==U .cell)then(n,dI.cell)else(n,k)).lookup x=U .cell \/
  (names.map λ(n,k)=>if(k==dI.free&&env.scope.kind==.function&&env.kindOf n==U .cell)then(n,dI.cell)else(n,k)).lookup x=U .free)->(x,dI.free)∈names\/(x,dI.cell)∈names
 |[],h=>by simp at h
 |(n,k)::r,h=>by
  rw[dC]at h;cases hx:x==n with
  |true=>
   have e:x=n:=eq_of_beq hx;by_cases hc:(k==dI.free&&env.scope.kind==.function&&env.kindOf n==U .cell)=Â
   ·have:k=.free:=by rw[dE,dE]at hc;exact eq_of_beq hc.1.1
    left;rw[e,this];exact cK
   ·simp only[hc,if_false,df,hx,eM]at h;rcases h with h|h
    ·cases h;right;rw[e];exact cK
    ·cases h;left;rw[e];exact cK
  |false=>
   refine(jb (env:=env) (names:=r) ?_).imp (cQ _)<|cQ _;by_cases hc:(k==dI.free&&env.scope.kind==.function&&env.kindOf n==U .cell)=Â
   ·simpa only[hc,if_true,df,hx]using h
   ·simpa only[hc,if_false,df,hx,eM]using h
def mG (Z:St)(cap:List Nat):St:=cap.map λi=>(Z[i]?).join
variable {cap:List Nat}{j:Nat}
theorem X9 {i:Nat}{v:V}(hj:cap[j]?=U i)(h:(mG Z cap)[j]?=U (U v)):Z[i]?=U (U v):=by
 unfold mG at h;rw[eU,hj]at h;cases e:Z[i]? with
 |none=>rw[tF,e]at h;cases h
 |some o=>
  rw[tF,e]at h;cases o with
  |none=>cases h
  |some u=>exact h
variable {fp:List cN}
theorem YT {cl:List (Str×cN)}{N:List Str}{own:Nat}{h₁:c7}{m₀:Str->Option cJ}(B:pB X scope N own cap)(I:Ê X cM Z H s)
    (c1:∀y c,cl.lookup y=U c->X.env.cells.lookup y=U c) (c2:∀x∈scope.names,x.2=.free->∃c,cl.lookup x.1=U c)
    (hf:∀b∈fp,tG X cM H b) (NM:∀b∈fp,b<s.heap.objs.size) (wO:h₁.Ns s.heap.objs.size m₀) (k:∀b o,s.heap.get? b=U o->h₁.get? b=U o)
    (Bv:∀c,s.heap.objs.size+1<=c->c<s.heap.objs.size+1+pP scope.names->h₁.IsCell c G) :
    Ê (nZ X scope (cellsFrom (s.heap.objs.size+1) scope.names cl) N s.heap.objs.size fp s H) [] (cY own G++mG Z cap) H { s with heap:=h₁,toks:=t' } :=
  have low:∀x c,cl.lookup x=U c->c<s.heap.objs.size:=λx c e=>by obtain⟨v,o,q,_⟩:=I.cell x c<|c1 x c e;exact cW q
  { ok:={
      mod:=I.mod
      kind:=B.kind
      glob:=I.ok.glob
      blt:=I.ok.blt
      above:=di _
      inj:=MW _ _ _ (λx y c e e'=>I.ok.inj x y c (c1 x c e)<|c1 y c e') λx c e=>jJ<|low x c e
      has:=λx hx=>by
        refine uO.mp<|nW scope.names _ _ ?_;rcases jb hx with q|q
        · right;obtain⟨c,e⟩:=c2 _ q rfl
          rw[e];rfl
        · exact .inl<|B.cells _ q rfl
      cab:=λx c e e'=>by
        have hx:scope.names.lookup x=U .cell:=eq_of_beq e;rcases FF _ _ _ e' with⟨h1,_⟩|⟨_,h2⟩
        · exact sO h1
        · exact absurd (ul hx) h2
      hd:=I.ok.hd
      frames:=I.ok.frames
      stk:=.inl rfl
      exf:=λb hb=>⟨dB<|NM b hb,λx c e=>by
        rcases FF _ _ _ e with⟨h1,_⟩|⟨h1,_⟩
        · exactλz=>absurd (NM b hb) (by rw[←z];exact Nat.not_lt.mpr<|sO h1)
        · exact(hf b hb).2.2.2.2.1 x c<|c1 x c h1⟩
      bs:=I.bs
      bsz:=eQ I.ok.bsz I.sz
      noex:=λb o e hb=>by
        rcases(hf b hb).2.2.2.1 with q|q
        · exact I.ok.noex b o e q
        · exact absurd (dF (cW e) I.ok.bsz)<|Nat.not_lt.mpr q
      exfs:=λb hb hz=>by
        rcases cP.mp (I.stkSub b hz)with q|q
        · exact(hf b hb).2.1 q
        · exact(hf b hb).2.2.1 q
      funs:=I.stack
      frf:=I.stkFree }
    os:=rfl
    bare:=I.bare
    base:=Un.kept k
    loc:=by
      refine⟨m₀,wO,λi x v hN hσ hv=>?_⟩;by_cases hi:i<own
      · rw[ga<|by rw[gU];exact hi,n6,if_pos hi]at hσ;cases hσ
      · obtain⟨j,rfl⟩:∃j,i=own+j:=⟨i-own,by lia⟩;obtain⟨i',e1,L,e3⟩:=B.caps j x hN;rw[fZ<|by rw[gU];lia,gU,wZ]at hσ;have Ek:=X9 e1 hσ;have hk:=B.free (x,.free) (ul e3) rfl;obtain⟨m,hm,hl⟩:=I.loc;obtain⟨u,ru,hu⟩:=hl i' x v L Ek<|.inr hk;refine⟨u,ru,?_⟩;rcases hu with⟨q,_⟩|⟨_,c,hc,ic⟩
        · rcases hk with hk|hk
          · rw[hk]at q;cases q
          · rw[hk]at q;cases q
        · obtain⟨c',Dr⟩:=c2 (x,.free) (ul e3) rfl;have ec:=c1 x c' Dr;rw[hc]at ec;cases ec;have hn:(x,dI.cell)∉scope.names:=λz=>by have:=B.cells _ z rfl;rw[e3]at this;cases this
          exact .inr ⟨qw e3,c,by show(cellsFrom _ _ _).lookup x=_;rw[MV _ _ _ hn];exact Dr,ic.keeps k⟩
    cell:=λx c e=>by
      rcases FF _ _ _ e with⟨h1,h2,_⟩|⟨h1,_⟩
      · exact⟨G,Bv c h1 h2⟩
      · obtain⟨v,q⟩:=I.cell x c<|c1 x c h1;exact⟨v,q.keeps k⟩
    free:=I.hok.fresh<|di _
    freeC:=λx c e=>by
      rcases FF _ _ _ e with⟨h1,_⟩|⟨h1,_⟩
      · exact I.hok.fresh<|sO h1
      · exact I.freeC x c<|c1 x c h1
    pin:=λp hp=>(nomatch hp)
    hok:=I.hok.kept k
    len:=by show(cY own G++mG Z cap).length=N.length;rw[ee,gU,B.len];unfold mG;rw[dr] }
def CZ:TT:=λ_ H Q=>Q Â H
def Di (X:Cx)(ifs:List Expr)(t:TT):Prop :=
 ∀(cM:List<|cN×gz) (s:cU) (Z:St) (H:Hp) (Q:Bool->Hp->Prop),Ê X cM Z H s->t Z H Q ->
  dg (dz X.prog X.w) X.A (forIn ifs Â λc r=>if r=Â then do let ok ← yD c X.env (eW c X.env);pure (ForInStep.yield ok)else pure (ForInStep.yield r)) (TP X cM Z Q) X.xe s
theorem ztr:Di X [] CZ:=λ_ _ _ H _ I h=>wpAny_tests_nil ⟨H,I,h⟩
variable {c:Expr}
theorem zts {t:TT}(h:PT X c t):Di X [c] t:=λcM s Z H Q I q=>wpAny_tests_one<|h cM s Z H Q I q
def Aq (wi:TI)(own:Nat)(cap:List Nat)(g:TG)(tt:TT)(te:TE):TE:=λZ H Q=>wi Z H λU' H1=>∀D,H1 D=G->∃W:Nat->Nat->List V->Hp->Prop,(∃m,W 0 m []<|upd H1 D<|.lst []) /\
 ∀i m ys H2,W i m ys H2->H2 D=U (.lst ys)/\((U'.stop i H2/\Q (.ref D) H2)\/(U'.go i H2/\ys.length<sizeLine/\∀x H3,U'.yld i H2 x H3->g x (cY own G++mG Z cap) H3 λσ2 H4=>tt σ2 H4 λb H5=>if b=Â then te σ2 H5 λy H6=>H6 D=U (.lst ys)/\∃m',m'<m/\W (i+1) m' (ys++[y]) (upd H6 D<|.lst<|ys++[y])else∃m',m'<m/\W (i+1) m' ys H5))
def lF (own:Nat)(g:TG):Prop:=∀v Z H Q,g v Z H Q->g v Z H λσ' H'=>Q σ' H'/\σ'.length = Z.length/\∀i,own<=i->σ'[i]? = Z[i]?
theorem OQ (i own:Nat)(h:i<own):lF own (Ae i):=λv Z H Q q=>⟨q,by rw[tQ],λj hj=>by rw[jT<|by lia]⟩
variable {g:TG}{tg:Expr}{tt:TT}{wi:TI}
theorem P7 {QV:VK}{use:Option (cJ->uP Unit)}{Q0:cJ->cU->Prop}{t3:mR}{N:List Str}{own:Nat}{c:Prop}(B:pB X scope N own cap)(hc:c)(hi:FQ X c tg iter wi)
    (kg:lF own g)
    (hg:∀cl KK fp s₀ H₀,PG (nZ X scope cl N KK fp s₀ H₀) tg g) (ht:∀cl KK fp s₀ H₀,Di (nZ X scope cl N KK fp s₀ H₀) ifs tt) (he:∀cl KK fp s₀ H₀,PE (nZ X scope cl N KK fp s₀ H₀) qL te)
    (hs:A0 X iter) (I:Ê X cM Z H s) (h:Aq wi own cap g tt te Z H QV)
    (fin:∀(D KK:cN) (H5:Hp) (s6:cU) (r:Flow),QV (.ref D) H5->Ê X cM Z H5 s6->tG X cM H5 KK->(∃m,s6.heap.Ns KK m)->compPost (dz X.prog X.w) X.A X.xe use Q0 (.ref D) KK (.ok r) s6) :
    dg (dz X.prog X.w) X.A (comprehension (.ListComp qL [⟨tg,iter,ifs,0⟩] scope pos) scope X.env t3 (newList []) Ã (eW iter X.env) use) Q0 X.xe s:=by
  obtain⟨cl,J5,c1,c2,_⟩:=jv (env:=X.env) scope.names [] (λx hx hf=>I.ok.has x.1<|B.free x hx hf) (λy c e=>by simp at e);have Gj:closureFor scope X.env=pure cl:=by have e:closureFor scope X.env=(forIn scope.names ([]:List (Str×cN)) (λ(x:Str×dI) (cs:List<|Str×cN)=>if(x.2==dI.free)=Â then do let a ← cellOf X.env x.1;pure (ForInStep.yield ((x.1,a)::cs))else pure (ForInStep.yield cs)) >>= pure:uP (List<|Str×cN)):=rfl;rw[e,J5];rfl
  refine wpAny_comprehension_free (use:=use) rfl hs Gj B.kind B.locs<|gc (hi cM s Z H _ I h) λv s1 h1=>gc h1 λKW s2 h2=>?_;obtain⟨it,fp,tn,U',H2,e,I2,⟨Cs,T,hT⟩,B8,f2,W0⟩:=h2;subst e;obtain⟨W,⟨m0,w0⟩,zU⟩:=W0 s2.heap.objs.size<|I2.hok.fresh<|di _;refine oQ ?_;have I3:Ê X cM Z (upd H2 s2.heap.objs.size<|.lst []) { s2 with heap:=s2.heap.push { cls:=.type "list",data:=.seq ([]:List cJ).toArray } }:=I2.lnew .nil<|e8 _;generalize NT:({ s2 with heap:=s2.heap.push { cls:=.type "list",data:=.seq ([]:List cJ).toArray } }:cU)=s3 at I3;have k3:∀b o,s2.heap.get? b=U o->s3.heap.get? b=U o:=λb o e=>by rw[←NT];exact cS _ e
  have z3:s3.heap.objs.size=s2.heap.objs.size+1:=by rw[←NT];exact gQ _ _
  have D8:∀b∈fp,b<s2.heap.objs.size:=λb hb=>by obtain⟨o,e,_⟩:=T.obj _ _ B8 b hb;exact cW e
  have AJ:∀b∈fp,b≠s2.heap.objs.size:=λb hb=>dB<|D8 b hb;have f3:∀b∈fp,tG X cM (upd H2 s2.heap.objs.size<|.lst []) b:=λb hb=>⟨by rw[zo<|AJ b hb];exact(f2 b hb).1,(f2 b hb).2⟩;have U9:tn 0 s3.heap:=T.keep _ _ _ B8 λb _ o e=>k3 b o e;show dg _ _ (yE scope X.env.globals cl [] X.env.qual G .none<|U X.env) _ _ _;refine WS λh₁ kk Kr J7=>?_;have IB:=YT (t':=s3.toks) B I3 c1 c2 f3 (λb hb=>by rw[z3];exact jJ<|D8 b hb) Kr kk J7;generalize cellsFrom (s3.heap.objs.size+1) scope.names cl=cl at IB ⊢;generalize Ug:({ s3 with heap:=h₁,toks:=s3.toks }:cU)=s4 at IB;have Ou:tn 0 s4.heap:=T.keep _ _ _ U9 λb _ o e=>by rw[←Ug];exact kk b o e
  show lx (dz X.prog X.w) X.A (.compStart (.ListComp qL [⟨tg,iter,ifs,0⟩] scope pos) 0 (.ref it) (.ref s2.heap.objs.size)<|compEnvC scope cl s3.heap.objs.size X.env)
      (compPost (dz X.prog X.w) X.A X.xe use Q0 (.ref s2.heap.objs.size) s3.heap.objs.size) s4
  have zS:∀{H':Hp},(∀b∈fp,H' b=G)->∀b∈fp,tG (nZ X scope cl N s3.heap.objs.size fp s3<|upd H2 s2.heap.objs.size<|.lst []) [] H' b:=λhn b hb=>⟨hn b hb,dB (by show b<s3.heap.objs.size;rw[z3];exact jJ<|D8 b hb),IB.ok.exfs b hb,.inl hb,λx c e=>(IB.ok.exf b hb).2 x c e,λp hp=>(nomatch hp)⟩;have loop:lx (dz X.prog X.w) X.A (.compLoop (.ListComp qL [⟨tg,iter,ifs,0⟩] scope pos) 0 (.ref it) (.ref s2.heap.objs.size)<|compEnvC scope cl s3.heap.objs.size X.env)
      (compPost (dz X.prog X.w) X.A X.xe use Q0 (.ref s2.heap.objs.size) s3.heap.objs.size) s4:=by
    refine WR (λn s'=>∃i ys H',Ê (nZ X scope cl N s3.heap.objs.size fp s3<|upd H2 s2.heap.objs.size<|.lst []) [] (cY own G++mG Z cap) H' s'/\tn i s'.heap/\(∀b∈fp,H' b=G)/\W i n ys H') ?_ m0
      ⟨0,[],_,IB,Ou,λb hb=>(f3 b hb).1,w0⟩
    rintro n s5 ⟨i,ys,H5,I5,Fm,HM,w5⟩;obtain⟨hD,T4⟩:=zU i n ys H5 w5;rcases T4 with⟨stop,qn⟩|⟨go,tV,step⟩
    · refine gc (T.done (nZ X scope cl N s3.heap.objs.size fp s3<|upd H2 s2.heap.objs.size<|.lst []) rfl rfl rfl (hT hc _ rfl rfl) i [] s5 _ H5 (λ_ _=>False) I5 (zS HM) Fm stop) λr s6 gR=>?_;obtain⟨hr,I6⟩:=gR;subst hr;obtain⟨m,hm,_⟩:=id I6.loc;refine fin s2.heap.objs.size s3.heap.objs.size H5 s6 _ qn ?_ (I3.fpOk (di _) I6.free) ⟨m,hm⟩;have sb:fe s3.heap.objs.size s6.heap s6.heap:=⟨rfl,λ_ _=>rfl⟩;have Z':=I6.base;have nC:∀b o,s3.heap.get? b=U o->b≠s3.heap.objs.size:=λb o e=>dB<|cW e;have nT:∀b o,H5 b=U o->b≠s3.heap.objs.size:=λb o e z=>by have q:H5 s3.heap.objs.size=G:=I6.free;rw[z,q]at e;cases e
      refine I3.call' (ch:=fp) I6.os ?_ (λa o e=>(I6.hok a o e).stay (λb u hb q=>sb.extBut b u ?_ q) (λ_ q=>q) λ_ _ q=>q) I6.bare<|λb hb=>⟨(f3 b hb).2.2.2.1,(f3 b hb).2.1,(f3 b hb).2.2.2.2.1,(f3 b hb).2.2.2.2.2⟩
      · exact{
          keep:=λb o e z hb he=>sb.extBut b o (nC b o e)<|Z'.keep b o e z hb he
          slot:=λb o e z hb he=>by obtain⟨sl,q⟩:=Z'.slot b o e z hb he;exact⟨sl,sb.extBut b _ (nC b o e) q⟩
          free:=Z'.free
          there:=λb o e he=>by obtain⟨o',q⟩:=Z'.there b o e he;exact⟨o',sb.extBut b o' (nC b o e) q⟩
          tups:=Z'.tups
          frzs:=Z'.frzs
          tbls:=Z'.tbls }
      · rcases hb with rfl|hb
        · exact nT _ _ e
        · exact nT _ _ hb
    · refine gc (T.item (nZ X scope cl N s3.heap.objs.size fp s3<|upd H2 s2.heap.objs.size<|.lst []) rfl rfl rfl (hT hc _ rfl rfl) i [] s5 _ H5 (λ_ _=>False) I5 (zS HM) Fm go) λr s6 gR=>?_;obtain⟨u,hr,h6⟩:=gR;subst hr;refine gc h6 λ_ s7 gR=>?_;obtain⟨x,H7,I7,r7,y7,Lp,Tr⟩:=gR;have Sw:=I7.pinned (zS Tr)<|T.obj _ _ Lp;refine gc (hg cl s3.heap.objs.size fp s3 _ _ s7 _ H7 x u _ Sw r7<|kg _ _ _ _<|step x H7 y7) λ_ s8 gR=>?_;obtain⟨σ8,H8,I8,q8,l8,p8⟩:=gR;have back:∀{H9:Hp} {s9:cU},Ê (nZ X scope cl N s3.heap.objs.size fp s3<|upd H2 s2.heap.objs.size<|.lst []) ([]++tZ fp s7.heap) σ8 H9 s9 ->
          Ê (nZ X scope cl N s3.heap.objs.size fp s3<|upd H2 s2.heap.objs.size<|.lst []) [] (cY own G++mG Z cap) H9 s9/\tn (i+1) s9.heap/\∀b∈fp,H9 b=G:=λ{H9 s9} I9=>by
        refine⟨(I9.unpinned).weak l8.symm<|λj v e=>?_,T.keep _ _ _ Lp λb hb o e=>(I9.pin (b,o)<|cR _<|cR _<|uj hb e).1,λb hb=>?_⟩
        · by_cases hj:j<own
          · rw[ga<|by rw[gU];exact hj,n6,if_pos hj]at e;cases e
          · rw[p8 j<|by lia];exact e
        · obtain⟨o,e,d⟩:=T.obj _ _ Lp b hb;exact(I9.pin (b,o)<|cR _<|cR _<|uj hb e).2.1
      refine gc (ht cl s3.heap.objs.size fp s3 _ _ s8 σ8 H8 _ I8 q8) λok s9 gR=>?_;obtain⟨H9,I9,q9⟩:=gR;cases ok with
      |false=>rw[if_neg cZ];rw[if_neg cZ]at q9;obtain⟨m',Gs,w'⟩:=q9;obtain⟨b1,b2,b3⟩:=back I9;exact⟨m',Gs,i+1,ys,H9,b1,b2,b3,w'⟩
      |true=>rw[if_pos rfl];rw[if_pos rfl]at q9;refine gc (he cl s3.heap.objs.size fp s3 _ _ s9 σ8 H9 _ I9 q9) λuy Lm gR=>?_;obtain⟨y,Ng,Ss,r10,JY,m',Gs,w'⟩:=gR;refine gc (LP _ Lm σ8 Ng (.ref s2.heap.objs.size) [y] (.ref s2.heap.objs.size) [uy] (λ_ Nh=>Nh=upd Ng s2.heap.objs.size (.lst<|ys++[y])) Ss rfl (.cons r10 .nil) ⟨_,ys,y,rfl,rfl,JY,tV,rfl⟩) λ_ s11 gR=>?_;obtain⟨_,Nh,Su,_,SW⟩:=gR;subst SW;obtain⟨b1,b2,b3⟩:=back Su;exact⟨m',Gs,i+1,ys++[y],_,b1,b2,b3,w'⟩
  exact codeAny_compStart_list loop<|T.self X.A 0 s4 _ _ Ou loop
theorem ztt {N:List Str}{own:Nat}{c:Prop}(B:pB X scope N own cap)(hc:c)(hi:FQ X c tg iter wi)
  (kg:lF own g)
  (hg:∀cl KK fp s₀ H₀,PG (nZ X scope cl N KK fp s₀ H₀) tg g) (ht:∀cl KK fp s₀ H₀,Di (nZ X scope cl N KK fp s₀ H₀) ifs tt) (he:∀cl KK fp s₀ H₀,PE (nZ X scope cl N KK fp s₀ H₀) qL te)
  (hs:A0 X iter:=by intro _;rfl):PE X (.ListComp qL [⟨tg,iter,ifs,0⟩] scope pos) (Aq wi own cap g tt te):=by
 intro cM s Z H Q I h;rw[eval_ListComp];refine P7 (use:=none) (Q0:=EP X cM Z Q) B hc hi kg hg ht he hs I h λD KK H5 s6 r q I6 fo hm=>?_;obtain⟨m,hm⟩:=hm;obtain⟨f0,f1,f2,f3,f4,f5⟩:=fo;exact⟨m,hm,λh' sb=>⟨.ref D,H5,I6.turned (t':=s6.toks) (it:=KK) (λb o hb e=>sb.extBut b o hb e) f0 f1 f3 f4 f5,rfl,q⟩⟩
variable {ch:List cN}
theorem Ê.turnLay {a:cN}{o:HO}(I:Ê X cM Z H s)(tO:∀b∈ch,tG X cM H b)(k:∀b o,b∉ch->s.heap.get? b=U o->h'.get? b=U o)(hp:s.heap.objs.size<=a)
  (new:hV X.prog X.w (upd H a o) h' a o):Ê X cM Z (upd H a o) { s with heap:=h',toks:=t' }:=by
 have hn:H a=G:=I.hok.fresh hp;have GQ:∀b u,H b=U u->b∉ch:=λb u e z=>by rw[(tO b z).1]at e;cases e
 refine I.step (g':=s.gens) (d':=s.drawn) (ch:=ch) (λb hb=>⟨(tO b hb).2.2.2.1,(tO b hb).2.1,(tO b hb).2.2.2.2.1,(tO b hb).2.2.2.2.2⟩) (λb o _ _ hc e _=>k b o hc e) (λb o _ _ hc e _=>⟨o.slots,k b o hc e⟩)
  (λb o _ e n=>by rw[zo<|dB<|dF (cW e) hp];exact n) (λb o hc e=>⟨o,k b o hc e⟩) (λb xs q=>by rw[zo<|z7 q hn];exact q) (λb u xs q=>by rw[zo<|z7 q hn];exact q)
  (λb ps q=>⟨#[],by rw[zo<|z7 q hn,q];simp⟩) (λm hm=>?_) (λb u e=>?_) I.bare
 ·obtain⟨o',es,ep,ho,r⟩:=hm;exact⟨o',es,ep,k _ o' (λz=>(tO _ z).2.1 rfl) ho,r⟩
 ·by_cases hb:b=a
  ·subst hb;rw[zu]at e;cases e;exact new
  ·rw[zo hb]at e;refine(I.hok b u e).stay (λc v hc q=>k c v ?_ q) (λc q=>by rw[zo<|z7 q hn];exact q) λc xs q=>by rw[zo<|z7 q hn];exact q
   rcases hc with z|z
   ·rw[z];exact GQ b u e
   ·exact GQ c _ z
theorem Ê.turnedL (I:Ê X cM Z H s)(tO:∀b∈ch,tG X cM H b)(k:∀b o,b∉ch->s.heap.get? b=U o->h'.get? b=U o):Ê X cM Z H { s with heap:=h',toks:=t' }:=by
 have GQ:∀b u,H b=U u->b∉ch:=λb u e z=>by rw[(tO b z).1]at e;cases e
 refine I.step (g':=s.gens) (d':=s.drawn) (ch:=ch) (λb hb=>⟨(tO b hb).2.2.2.1,(tO b hb).2.1,(tO b hb).2.2.2.2.1,(tO b hb).2.2.2.2.2⟩) (λb o _ _ hc e _=>k b o hc e) (λb o _ _ hc e _=>⟨o.slots,k b o hc e⟩)
  (λ_ _ _ _ n=>n) (λb o hc e=>⟨o,k b o hc e⟩) (λ_ _ e=>e) (λ_ _ _ e=>e) (λb ps e=>⟨#[],by rw[e];simp⟩) (λm hm=>?_) (λb u e=>?_) I.bare
 ·obtain⟨o',es,ep,ho,r⟩:=hm;exact⟨o',es,ep,k _ o' (λz=>(tO _ z).2.1 rfl) ho,r⟩
 ·refine(I.hok b u e).stay (λc v hc q=>k c v ?_ q) (λ_ q=>q) λ_ _ q=>q;rcases hc with z|z
  ·rw[z];exact GQ b u e
  ·exact GQ c _ z
def JD (K:cL)(a:cN):It :=
 ⟨λi H=>∃xs x,iE K H a xs/\xs[i]?=U x,λi H x H'=>∃p y,H p=G/\x=.ref p/\H'=upd H p (.tup [.int i,y])/\∀xs,iE K H a xs->xs[i]?=U y,λi H=>∃xs,iE K H a xs/\xs.length<=i⟩
variable {tI:List Expr}{kt:Nat}
theorem YU {w:d8}{K:cL}{pt:mR}(a e it:cN)(NL:e≠it) :
    ô P w K (.Tuple tI kt pt) (JD K a) [e,it] e (λi h=>(∃old,IsEnum h e it i old)/\h.IsListIter it a i) where
  mem:=by simp
  obj:=λi h st b hb=>by
    obtain⟨⟨old,he⟩,o,e1,c,d⟩:=st;rcases cP.mp hb with rfl|hb
    · exact⟨_,he,λv z=>by cases z⟩
    · have L:b=it:=by simpa using hb
      subst L;exact⟨o,e1,λv z=>by rw[d]at z;cases z⟩
  keep:=λi h h' st k=>by obtain⟨⟨old,he⟩,hit⟩:=st;exact⟨⟨old,k e (by simp) _ he⟩,hit.at λo x=>k it (by simp) o x⟩
  item:=by
    intro X hP hw hK hc i cM s Z H E I hf st hg;subst hP hw hK;obtain⟨xs,x,hq,hx⟩:=hg;obtain⟨eE,rv,p,hz⟩:=I.list hq;obtain⟨u,hu,ru⟩:=rv.get hx;obtain⟨⟨old,he⟩,hit⟩:=st;refine wpAny_pyNext_enum_item he hit p.isList (x:=u) (by simpa using hu) NL λh1 ho Kg hT hsz hk=>?_;refine⟨_,rfl,wpAny_letOwnedTupleGo_enum (s:={ s with heap:=h1,toks:=s.toks+1 }) ho λh2 Gn yI=>?_⟩;have qL:e<s.heap.objs.size:=cW he;have KS:it<s.heap.objs.size:=by obtain⟨_,q,_⟩:=hit;exact cW q
    have Gg:h2.get? s.heap.objs.size=U { cls:=.type "tuple",data:=.seq #[.int i s.toks,u] }:=(yI.2 _<|kc qL).trans hT;have Kf:H s.heap.objs.size=G:=I.hok.fresh<|di _;have I1:Ê X cM Z (upd H s.heap.objs.size<|.tup [.int i,x]) { s with heap:=h2,toks:=s.toks+1 }:=by refine I.turnLay (ch:=[e,it]) hf (λb o hb q=>?_) (di _) ⟨by show 2<=sizeLine;decide,[.int i s.toks,u],.cons ⟨_,rfl⟩<|.cons ru .nil,_,Gg,rfl,_,rfl⟩;have Nu:b≠e:=λz=>hb (by simp[z]);have Tz:b≠it:=λz=>hb (by simp[z]);exact(yI.2 b Nu).trans<|hk b o Nu Tz q
    refine⟨.ref s.heap.objs.size,_,I1,rfl,⟨_,x,Kf,rfl,rfl,λys hy=>by rw[I.list_inj hy hq];exact hx⟩,⟨⟨u,by simpa using Gn⟩,Kg.at λo q=>(yI.2 it NL.symm).trans q⟩,λb hb=>?_⟩;rw[zo ?_]
    · exact(hf b hb).1
    · rcases cP.mp hb with rfl|hb
      · exact dB qL
      · have L:b=it:=by simpa using hb
        rw[L];exact dB KS
  done:=by intro X hP hw hK hc i cM s Z H E I hf st hg;subst hP hw hK;obtain⟨xs,hq,hx⟩:=hg;obtain⟨eE,rv,p,hz⟩:=I.list hq;obtain⟨⟨old,he⟩,hit⟩:=st;have hl:=rv.length;exact wpAny_pyNext_enum_end (I.ok.hd hc) he hit p.isList (by simp;lia) λh' eb=>⟨rfl,I.turnedL (ch:=[e,it]) (t':=s.toks) hf λb o hb q=>eb b o (λz=>hb<|by simp[z]) q⟩
  self:=λ_ _ _ _ _ st h=>wpAny_pyIter_enum st.1.choose_spec h
section
variable {pt:mR}
def Gw (K:cL)(ta:TA):TI:=λZ H R=>ta Z H λvs H1=>∃a,vs=[.ref a]/\(∃xs,iE K H1 a xs)/\R (JD K a) H1
theorem QG {l:Expr}{ta:TA}(hg:Gl X "enumerate")(hm:X.mg "enumerate"=G)(ha:PA X [l] ta)(hs:SN X l:=by rfl) :
  PI X (.Tuple tI kt pt) (.Call (.Name "enumerate" p) [l] [] pos) (Gw X.K ta):=by
 intro cM s Z H R I h;refine Call_<|vd I hg hm PyProof.Rows.boot_enumerate<|eJ (gc (ha pos cM s Z H _ I h) λus s1 hq=>?_) hs rfl;obtain⟨vs,H1,I1,r1,q1⟩:=hq;obtain⟨a,e,⟨xs,hq⟩,q⟩:=q1;subst e;cases r1 with
 |cons r rr=>
  cases rr;cases r;obtain⟨eE,rv,pl,hz⟩:=I1.list hq;refine call_enumerate_list pl.isList λh' he hit hsz hk=>?_;refine wpAny_pyIter_enum (s:={ s1 with heap:=h' }) he ?_;refine⟨s1.heap.objs.size+1,[s1.heap.objs.size+1,s1.heap.objs.size],_,_,H1,rfl,I1.kept (t':=s1.toks) hk,(YU a _ _<|Nat.succ_ne_self _).ok,⟨⟨_,he⟩,hit⟩,λb hb=>?_,q⟩;rcases cP.mp hb with rfl|hb
  ·exact I1.fpOk (l7 _)<|I1.hok.fresh<|l7 _
  ·have e:b=s1.heap.objs.size:=by simpa using hb
   subst e;exact I1.fpOk (di _)<|I1.hok.fresh<|di _
end
variable {γ δ:Type}
namespace TS
structure Ix where
 n:Nat
structure PS where
 a:Array Ix
 pend:Array (Nat×Nat×Nat)
 mg:Nat
abbrev PM:=StateT PS Option
def xQ (arr:Array Ix)(i:Nat):PM Ix:=match arr.toList[i]? with
 |some p=>pure p
 |none=>failure
section
variable (lt:Nat->Nat->Bool)
def Iu (x y:Ix):PM (Option Bool):=pure<|U<|lt x.n y.n
def vK (i j:Nat):PM (Option Bool):=do
 let a:=(← get).a
 Iu lt (← xQ a i) (← xQ a j)
def F9 {β:Type}:List Ix->(List Ix->β)->β
 |[],k=>k []
 |⟨n⟩::xs,k=>match n with
  |0=>F9 xs λys=>k (⟨0⟩::ys)
  |m+1=>F9 xs λys=>k (⟨m+1⟩::ys)
theorem Jm {β:Type}:∀(xs:List Ix) (k:List Ix->β),F9 xs k=k xs
 |[],_=>rfl
 |⟨0⟩::xs,k=>Jm xs _
 |⟨m+1⟩::xs,k=>Jm xs _
def Em (a:Array Ix)(src d:Nat):List Ix:=if src<a.size/\d<=src then a.toList.take (src-d)++((a.toList.drop src).take 1++((a.toList.drop<|src-d).take d++a.toList.drop (src+1)))else(bubble a src d).toList
theorem ztu (a:Array Ix)(src d:Nat):(Em a src d).toArray=bubble a src d:=by
 unfold Em;by_cases h:src<a.size/\d<=src
 ·rw[if_pos h];apply Array.ext_getElem?;intro k;rw[getElem?_bubble h.1 d h.2 k,List.getElem?_toArray];have e1:(a.toList.take<|src-d).length=src-d:=by rw[kb,dQ];lia
  have L:((a.toList.drop src).take 1).length=1:=by rw[kb,ka,dQ];lia
  have e3:((a.toList.drop<|src-d).take d).length=d:=by rw[kb,ka,dQ];lia
  by_cases k1:k<src-d
  ·rw[ga<|by lia,if_neg<|by lia,if_neg<|by lia,kK k1,jD]
  ·rw[fZ<|by lia,e1];by_cases k2:k=src-d
   ·rw[if_pos k2,ga<|by lia,kK<|by lia,mV,jD];congr 1;lia
   ·rw[if_neg k2,fZ<|by lia,L];by_cases k3:k<=src
    ·rw[if_pos ⟨by lia,k3⟩,ga<|by lia,kK<|by lia,mV,jD];congr 1;lia
    ·rw[if_neg<|by lia,fZ<|by lia,e3,mV,jD];congr 1;lia
 ·rw[if_neg h]
def AN (i j:Nat):PM Unit:=λs=>F9 (mirror s.a i j<|(j-i)/2).toList λl=>U ((),PS.mk l.toArray s.pend s.mg)
def DD (src SR:Nat):PM Unit:=λs=>F9 (Em s.a src<|src-SR) λl=>U ((),PS.mk l.toArray s.pend s.mg)
def Le (lo CM:Nat):PM (Option Nat):=do
 let mut n:=1
 for _ in[1:CM]do
  let U rQ ← vK lt (lo+n) (lo+n-1)|return G
  if rQ then break
  n:=n+1
 if n==CM then return U n
 if n > 1 then
  let U Lj ← vK lt lo (lo+n-1)|return G
  if Lj then return U n
  AN lo (lo+n)
 pure ()
 n:=n+1
 let mut neq:=0
 for _ in[n:CM]do
  let U rQ ← vK lt (lo+n) (lo+n-1)|return G
  if rQ then
   if neq > 0 then AN (lo+n-(neq+1)) (lo+n)
   neq:=0
  else
   let U larger ← vK lt (lo+n-1) (lo+n)|return G
   if larger then break
   neq:=neq+1
  n:=n+1
 if neq > 0 then AN (lo+n-(neq+1)) (lo+n)
 AN lo (lo+n)
 for _ in[n:CM]do
  let U rQ ← vK lt (lo+n) (lo+n-1)|return G
  if rQ then break
  n:=n+1
 return U n
def p7 (left:Bool)(key:Ix)(arr:Array Ix)(base i:Nat):PM (Option Bool):=do
 let x ← xQ arr (base+i)
 if left then Iu lt x key else return(← Iu lt key x).map (!·)
def Ak (left:Bool)(key:Ix)(arr:Array Ix)(base n hint:Nat):PM (Option Nat):=do
 let mut lastofs:=0
 let mut ofs:=1
 let mut lo:=0
 let mut hi:=0
 let U right ← p7 lt left key arr base hint|return G
 if right then
  let mM:=n-hint
  for _ in[0:n]do
   if ofs >= mM then break
   let U more ← p7 lt left key arr base (hint+ofs)|return G
   if !more then break
   lastofs:=ofs
   ofs:=2*ofs+1
  lo:=hint+lastofs+1
  hi:=hint+min ofs mM
 else
  let mM:=hint+1
  for _ in[0:n]do
   if ofs >= mM then break
   let U found ← p7 lt left key arr base (hint-ofs)|return G
   if found then break
   lastofs:=ofs
   ofs:=2*ofs+1
  lo:=hint+1-min ofs mM
  hi:=hint-lastofs
 for _ in[0:n]do
  if lo >= hi then break
  let m:=lo+(hi-lo)/2
  let U more ← p7 lt left key arr base m|return G
  if more then lo:=m+1 else hi:=m
 return U hi
end
structure ý where
 k:Nat->Int
 t:Nat->Tok
 v:Nat->cJ
def zH (it:ý)(x:Ix):Keyed:=(.int (it.k x.n)<|it.t x.n,it.v x.n)
def Af:Bool->Keyed->Array Keyed->Nat->Nat->Nat->StateT SortSt uP (Option Nat):=sortPriv% PySem.Builtin.gallop
def pY (left:Bool)(key:Keyed)(arr:Array Keyed)(base i:Nat):StateT SortSt uP (Option Bool):=do
 let x ← elem' arr (base+i)
 if left then lt' x key else return(← lt' key x).map (!·)
theorem Ya (left:Bool)(key:Keyed)(arr:Array Keyed)(base n hint:Nat):Af left key arr base n hint=(do
 let mut lastofs:=0
 let mut ofs:=1
 let mut lo:=0
 let mut hi:=0
 let U right ← pY left key arr base hint|return G
 if right then
  let mM:=n-hint
  for _ in[0:n]do
   if ofs >= mM then break
   let U more ← pY left key arr base (hint+ofs)|return G
   if !more then break
   lastofs:=ofs
   ofs:=2*ofs+1
  lo:=hint+lastofs+1
  hi:=hint+min ofs mM
 else
  let mM:=hint+1
  for _ in[0:n]do
   if ofs >= mM then break
   let U found ← pY left key arr base (hint-ofs)|return G
   if found then break
   lastofs:=ofs
   ofs:=2*ofs+1
  lo:=hint+1-min ofs mM
  hi:=hint-lastofs
 for _ in[0:n]do
  if lo >= hi then break
  let m:=lo+(hi-lo)/2
  let U more ← pY left key arr base m|return G
  if more then lo:=m+1 else hi:=m
 return U hi):=rfl
class Cv (it:ý) (β:Type) (α:outParam Type) where
 cv:β->α
section
variable {it:ý}
instance:Cv it Nat Nat:=⟨id⟩
instance:Cv it Bool Bool:=⟨id⟩
instance:Cv it PUnit PUnit:=⟨id⟩
instance:Cv it Ix Keyed:=⟨zH it⟩
instance:Cv it (Array Ix) (Array Keyed):=⟨λa=>a.map<|zH it⟩
instance {α β:Type} [Cv it β α]:Cv it (Option β) (Option α):=⟨λo=>o.map<|Cv.cv it⟩
instance {α β γ δ:Type} [Cv it β α] [Cv it δ γ]:Cv it (β×δ) (α×γ):=⟨λp=>(Cv.cv it p.1,Cv.cv it p.2)⟩
instance {α β:Type} [Cv it β α]:Cv it (ForInStep β) (ForInStep α):=⟨λo=>match o with|.done b=>.done (Cv.cv it b)|.yield b=>.yield<|Cv.cv it b⟩
end
def D2 (it:ý)(ps:PS):SortSt:=SortSt.mk' oneType' (ps.a.map<|zH it) ps.pend ps.mg G
section
variable {prog:eL}{w:d8}{A:d6}{it:ý}
def sX (prog:eL)(w:d8)(A:d6)(E:cJ->cU->Prop)(s:cU)(it:ý)[Cv it β α](m:StateT SortSt uP α)(m':PM β):Prop :=
 ∀(ps:PS) (b:β) (zN:PS),m'.run ps=U (b,zN)->∀Q:α->SortSt->Prop,Q (Cv.cv it b) (D2 it zN)->wpS (dz prog w) A E s m Q (D2 it ps)
theorem um [Cv it β α]{a:α}{b:β}(h:a=Cv.cv it b):sX prog w A E s it (pure a) (pure b):=by intro ps b' zN e Q q;cases e;rw[h];exact wpS_pure q
theorem xg [Cv it β α][Cv it δ γ]{m:StateT SortSt uP α}{k:α->StateT SortSt uP γ}{m':PM β}{k':β->PM δ}(h:sX prog w A E s it m m')(hk:∀b,sX prog w A E s it (k<|Cv.cv it b)<|k' b):sX prog w A E s it (m >>= k) (m' >>= k'):=by intro ps d zN e Q q;rw[StateT.run_bind]at e;obtain⟨⟨b,Oa⟩,e1,L⟩:=Option.bind_eq_some_iff.mp e;exact wpS_bind<|h ps b Oa e1 _<|hk b Oa d zN L Q q
theorem ē [Cv it β α]{c:Prop}[Decidable c]{m n:StateT SortSt uP α}{m' n':PM β}(h1:c->sX prog w A E s it m m')(h2:¬c->sX prog w A E s it n n'):sX prog w A E s it (if c then m else n) (if c then m' else n'):=by
 by_cases hc:c
 ·rw[if_pos hc,if_pos hc];exact h1 hc
 ·rw[if_neg hc,if_neg hc];exact h2 hc
theorem ztv [Cv it δ γ]{k:SortSt->StateT SortSt uP γ}{k':PS->PM δ}(h:∀ps,sX prog w A E s it (k<|D2 it ps)<|k' ps):sX prog w A E s it (get >>= k) (get >>= k'):=by intro ps d zN e Q q;exact wpS_bind<|wpS_get<|h ps ps d zN e Q q
theorem Ĳ [Cv it β α]{m:StateT SortSt uP α}:sX prog w A E s it m (failure:PM β):=by intro ps d zN e Q q;cases e
theorem P8 {α β:Type}[Cv it β α]{f:Nat->α->StateT SortSt uP (ForInStep α)}{f':Nat->β->PM (ForInStep β)}(h:∀x b,sX prog w A E s it (f x<|Cv.cv it b)<|f' x b):∀(l:List Nat) (b:β),sX prog w A E s it (forIn l (Cv.cv it b) f) (forIn l b f')
 |[],b=>by rw[qC,qC];exact um rfl
 |x::l,b=>by
  rw[ma,ma];refine xg (h x b) λr=>?_;cases r with
  |done b'=>exact um rfl
  |yield b'=>exact P8 h l b'
theorem Į [Cv it β α]{f:Nat->α->StateT SortSt uP (ForInStep α)}{f':Nat->β->PM (ForInStep β)}{a:α}{b:β}{i:Nat}(hb:a=Cv.cv it b)(h:∀x b,sX prog w A E s it (f x<|Cv.cv it b)<|f' x b):sX prog w A E s it (forIn [i:j] a f) (forIn [i:j] b f'):=by rw[Std.Legacy.Range.forIn_eq_forIn_range',Std.Legacy.Range.forIn_eq_forIn_range',hb];exact P8 h _ _
theorem ztw {F:SortSt->SortSt}{F':PS->PS}(h:∀ps,F (D2 it ps)=D2 it (F' ps)):sX prog w A E s it (modify F) (modify F'):=by intro ps d zN e Q q;cases e;exact wpS_modify (by rw[h];exact q)
theorem ď {arr:Array Ix}{i:Nat}:sX prog w A E s it (elem' (Cv.cv it arr) i) (xQ arr i):=by
 intro ps d zN e Q q;rw[elem'_eq];have e':(Cv.cv it arr:Array Keyed)[i]?=(arr[i]?).map (zH it):=by show(arr.map<|zH it)[i]?=_;simp
 rw[e'];unfold xQ at e;rw[jD]at e;cases h:arr[i]? with
 |none=>rw[h]at e;cases e
 |some x=>rw[h]at e;cases e;exact wpS_pure q
theorem Ċ {x y:Ix}:sX prog w A E s it (lt' (Cv.cv it x)<|Cv.cv it y) (Iu (λi j=>decide<|it.k i<it.k j) x y):=by intro ps d zN e Q q;cases e;rw[lt'_eq];refine wpS_bind<|wpS_get ?_;show wpS _ _ _ _ (do let r ← (liftM (keyLt' oneType' _ _).attempt:StateT SortSt uP _);_) _ _;rw[keyLt'_oneType];refine wpS_bind<|wpS_lift<|wpAny_attempt<|oneLt_int ⟨rfl,?_⟩;exact wpS_pure q
theorem P9 {F:SortSt->SortSt}{m:PM Unit}{F':PS->PS}(hm:∀ps,m ps=U ((),F' ps))(h:∀ps,F (D2 it ps)=D2 it (F' ps)):sX prog w A E s it (modify F) m:=by intro ps d zN e Q q;have e:m ps=U (d,zN):=e;rw[hm]at e;cases e;exact wpS_modify (by rw[h];exact q)
theorem ztx {i:Nat}:sX prog w A E s it (reverseSlice' i j) (AN i j):=by rw[reverseSlice'_eq];refine P9 (F':=λs=>PS.mk (mirror s.a i j<|(j-i)/2) s.pend s.mg) (λps=>by unfold AN;rw[Jm]) λps=>?_;show SortSt.mk' _ (mirror (ps.a.map<|zH it) i j<|(j-i)/2) _ _ _=SortSt.mk' _ ((mirror ps.a i j<|(j-i)/2).map<|zH it) _ _ _;have e1:mirror (ps.a.map<|zH it) i j ((j-i)/2)=(mirror ps.a i j<|(j-i)/2).map (zH it):=vR (zH it) (λk=>i+k) (λk=>j-1-k) _ ps.a;rw[e1];rfl
theorem zpr {k l:Nat}:sX prog w A E s it (moveDown' k l) (DD k l):=by rw[moveDown'_eq];refine P9 (F':=λs=>PS.mk (bubble s.a k<|k-l) s.pend s.mg) (λps=>by unfold DD;rw[Jm,ztu]) λps=>?_;show SortSt.mk' _ (bubble (ps.a.map<|zH it) k<|k-l) _ _ _=SortSt.mk' _ ((bubble ps.a k<|k-l).map<|zH it) _ _ _;have e1:bubble (ps.a.map<|zH it) k (k-l)=(bubble ps.a k<|k-l).map (zH it):=vR (zH it) (λi=>k-i) (λi=>k-i-1) _ ps.a;rw[e1];rfl
abbrev ý.lt (it:ý)(i j:Nat):Bool:=decide<|it.k i<it.k j
theorem zps {i:Nat}:sX prog w A E s it (ltAt' i j) (vK it.lt i j):=by rw[ltAt'_eq];exact ztv λps=>xg (ď (arr:=ps.a)) λx=>xg (ď (arr:=ps.a)) λy=>Ċ
section
variable [Cv it β α][Cv it δ γ]
theorem Ħ (n:Nat):Cv.cv it n=n:=rfl
theorem ĭ (n:Bool):Cv.cv it n=n:=rfl
theorem Ĭ (n:PUnit):Cv.cv it n=n:=rfl
theorem ī (x:β)(y:δ):Cv.cv it (x,y)=(Cv.cv it x,Cv.cv it y):=rfl
theorem Ī:Cv.cv it (G:Option β)=G:=rfl
theorem ĩ (x:β):Cv.cv it (U x)=U (Cv.cv it x):=rfl
theorem Ĩ (x:β):Cv.cv it (ForInStep.done x)=ForInStep.done (Cv.cv it x):=rfl
theorem ı (x:β):Cv.cv it (ForInStep.yield x)=ForInStep.yield (Cv.cv it x):=rfl
end
theorem İ (a:Array Ix)(x:Ix):(Cv.cv it a:Array Keyed).push (Cv.cv it x)=Cv.cv it (a.push x):=(Array.map_push ..).symm
theorem į (a:Array Ix):(Cv.cv it a:Array Keyed).size=a.size:=Array.size_map ..
theorem uw (a:Array Ix)(i j:Nat):(Cv.cv it a:Array Keyed).extract i j=Cv.cv it (a.extract i j):=by show(a.map _).extract i j=(a.extract i j).map _;simp
theorem ux (a b:Array Ix):(Cv.cv it a:Array Keyed)++(Cv.cv it b:Array Keyed)=Cv.cv it (a++b):=by show(a.map _)++(b.map _)=(a++b).map _;simp
theorem ĉ (a:Array Ix):(Cv.cv it a:Array Keyed).reverse=Cv.cv it a.reverse:=by show(a.map _).reverse=a.reverse.map _;simp
theorem ĥ (x:Ix):(#[Cv.cv it x]:Array Keyed)=Cv.cv it #[x]:=by show _=(#[x]:Array Ix).map _;simp;rfl
theorem Γ [Cv it β α]{x:String}{k:PUnit->StateT SortSt uP α}{m:PM β}(h:sX prog w A E s it (k PUnit.unit) m):sX prog w A E s it (liftM (rule x) >>= k) m:=by intro ps d zN e Q q;exact wpS_bind<|wpS_lift<|wpAny_rule ⟨rfl,h ps d zN e Q q⟩
section
variable [Cv it β α][Cv it δ γ]
theorem Ĥ (p:β×δ):(Cv.cv it p).fst=Cv.cv it p.fst:=rfl
theorem ģ (p:β×δ):(Cv.cv it p).snd=Cv.cv it p.snd:=rfl
end
local macro_rules| `(tactic|walk_at "cv")=>`(tactic|simp only[Ħ,ĭ,Ĭ,ī,Ī,ĩ,Ĩ,ı,İ,į,uw,ux,ĉ,ĥ,Ĥ,ģ])
local macro_rules| `(tactic|walk_at "opt")=>`(tactic|(rintro(_|b)<;>(try walk_at "cv")<;>(try dsimp only)))
local macro_rules| `(tactic|walk_at "tidy")=>`(tactic|((try walk_at "cv");(try dsimp only)))
local macro_rules| `(tactic|walk_at "sim")=>`(tactic|repeat' (first|exact um rfl|exact Ĳ|(refine ē (λ_=>?_)<|λ_=>?_)|(refine xg zps ?_;walk_at "opt")|(refine xg ztx λ_=>?_)|(refine xg zpr λ_=>?_)|(refine Γ ?_)|(refine xg (Į rfl λx b=>?_) λb=>?_<;>walk_at "tidy")|(rename_i b;generalize b.fst=o;rcases o with _|r<;>walk_at "tidy")))
theorem zkv {left:Bool}{key:Ix}{arr:Array Ix}{base i:Nat}:sX prog w A E s it (pY left (Cv.cv it key) (Cv.cv it arr) base i) (p7 it.lt left key arr base i):=by
 unfold pY p7;refine xg ď λx=>?_;cases left with
 |true=>exact Ċ
 |false=>refine xg Ċ ?_;rintro(_|b)<;>exact um rfl
local macro_rules| `(tactic|walk_at "gal")=>`(tactic|repeat' (first|exact um rfl|exact Ĳ|(refine ē (λ_=>?_)<|λ_=>?_)|(refine xg zkv ?_;walk_at "opt")|(refine xg (Į rfl λx b=>?_) λb=>?_<;>walk_at "tidy")|(rename_i b;generalize b.fst=o;rcases o with _|r<;>walk_at "tidy")))
theorem zkw {left:Bool}{key:Ix}{arr:Array Ix}{base n hint:Nat}:sX prog w A E s it (Af left (Cv.cv it key) (Cv.cv it arr) base n hint) (Ak it.lt left key arr base n hint):=by rw[Ya];unfold Ak;dsimp only;walk_at "gal"
end
end TS
namespace TS
structure Nj (m:Type->Type)(κ:Type) where
 elem:Array κ->Nat->m κ
 lt:κ->κ->m (Option Bool)
 gal:Bool->κ->Array κ->Nat->Nat->Nat->m (Option Nat)
 Of:Nat->m Unit
 Nq:(Nat->m (Array κ))->m (Array κ)
 rule:String->m PUnit
 bad:String->m (Array κ)
section
variable {m:Type->Type}[Monad m](S':Nj m κ)(a b:Array κ)(na nb:Nat)
noncomputable def dn (out:Array κ)(ia ib:Nat):Array κ:=out++a.extract ia na++b.extract ib nb
noncomputable def ls (out:Array κ)(ia ib:Nat):Array κ:=out++b.extract ib nb++a.extract ia na
end
section
variable {m:Type->Type}[Monad m](S':Nj m κ)(a b:Array κ)
noncomputable def JP (out:Array κ)(i j:Nat):Array κ:=a.extract 0 i++b.extract 0 j++out.reverse
noncomputable def K5 (out:Array κ)(i j:Nat):Array κ:=b.extract 0 j++a.extract 0 i++out.reverse
end
def uZ:Nat->StateT SortSt uP Unit:=sortPriv% PySem.Builtin.setMinGallop
def EB (g:Nat):PM Unit:=modify λs=>PS.mk s.a s.pend g
section
variable {prog:eL}{w:d8}{A:d6}{it:ý}{a b out:Array Ix}{na nb:Nat}
theorem zm2 {g:Nat}:sX prog w A E s it (uZ g) (EB g):=ztw λps=>rfl
theorem Œ (i j:Nat):dn (Cv.cv it a) (Cv.cv it b) na nb (Cv.cv it out:Array Keyed) i j=Cv.cv it (dn a b na nb out i j):=by unfold dn;rw[uw,uw,ux,ux]
theorem ő (i j:Nat):ls (Cv.cv it a) (Cv.cv it b) na nb (Cv.cv it out:Array Keyed) i j=Cv.cv it (ls a b na nb out i j):=by unfold ls;rw[uw,uw,ux,ux]
theorem Β (i j:Nat):JP (Cv.cv it a) (Cv.cv it b) (Cv.cv it out:Array Keyed) i j=Cv.cv it (JP a b out i j):=by unfold JP;rw[uw,uw,ĉ,ux,ux]
theorem Α (i j:Nat):K5 (Cv.cv it a) (Cv.cv it b) (Cv.cv it out:Array Keyed) i j=Cv.cv it (K5 a b out i j):=by unfold K5;rw[uw,uw,ĉ,ux,ux]
local macro_rules| `(tactic|walk_at "cv")=>`(tactic|simp only[Ħ,ĭ,Ĭ,ī,Ī,ĩ,Ĩ,ı,İ,į,uw,ux,ĉ,ĥ,Ĥ,ģ,Œ,ő,Β,Α])
local macro_rules| `(tactic|walk_at "opt")=>`(tactic|(rintro(_|b)<;>(try walk_at "cv")<;>(try dsimp only)))
local macro_rules| `(tactic|walk_at "mrg")=>`(tactic|repeat' (first|(refine ē (λ_=>?_)<|λ_=>?_)|(refine xg ď λ_=>?_)|(refine xg Ċ ?_;walk_at "opt")|(refine xg zkw ?_;walk_at "opt")|(refine xg zm2 λ_=>?_)|assumption|(refine um ?_;walk_at "cv";done)))
end
end TS
namespace TS
end TS
section
variable {prog:eL}{w:d8}{A:d6}{kz:List Int}
theorem Yb {l:cN}(hl:s.heap.IsList l vs.toArray)(hn:vs.length=2)(lO:kz.length=vs.length)(hu:∀out,KskOut Ã kz vs out->out=vs)
  (hv:∀(i:Nat) (v:cJ),vs[i]?=U v->∃(p:cN) (eE:Array cJ),v=.ref p/\s.heap.IsList p eE/\eE.size<=sizeLine/\kz.getD i 0=eE.size)
  (h:∀h' tk c,(∀b o,s.heap.get? b=U o->h'.get? b=U o)->h'.get? (s.heap.objs.size+1)=U (seqObj "list" vs.toArray c)->Q (.ref<|s.heap.objs.size+1) { s with heap:=h',toks:=tk }) :
  dg (dz prog w) A (call (.builtin "sorted") [.ref l] [(Str.ofString "key",.builtin "len")]) Q E s:=by
 refine call_function_entry_kw kind_sorted plain_sorted entry_sorted (ksk_s1 _ _) ?_;unfold Builtin.«sorted»;refine cO (m:=checkCount "sorted" 1 1 _)<|dw ?_;refine cO (collect_list hl ?_<|by rw[dW];lia);refine cO (wpAny_newList ?_<|by rw[dW];lia);have hsz:((s.heap.push<|seqObj "list" #[] 0).update s.heap.objs.size<|gz.mapSeq (·++vs.toArray)).objs.size=s.heap.objs.size+1:=by rw[Bd,size_push']
 have Cz:(((s.heap.push<|seqObj "list" #[] 0).update s.heap.objs.size<|gz.mapSeq (·++vs.toArray)).push<|seqObj "list" vs.toArray 0).get? (s.heap.objs.size+1)=U (seqObj "list" vs.toArray 0):=by rw[←hsz];exact dq _ rfl
 have keep:∀b o,s.heap.get? b=U o->(((s.heap.push<|seqObj "list" #[] 0).update s.heap.objs.size<|gz.mapSeq (·++vs.toArray)).push<|seqObj "list" vs.toArray 0).get? b=U o:=λb o q=>by have tV:b<s.heap.objs.size:=cW q;rw[AT _ _ _<|by rw[hsz];exact dB<|jJ tV,c7.get?_update_ne _ _ _ _ (dB tV),AT _ _ _<|dB tV];exact q
 show dg _ _ _ _ _ { s with heap:=((s.heap.push<|seqObj "list" #[] 0).update s.heap.objs.size<|gz.mapSeq (·++vs.toArray)).push (seqObj "list" vs.toArray 0) };rw[hsz];generalize ((s.heap.push<|seqObj "list" #[] 0).update s.heap.objs.size<|gz.mapSeq (·++vs.toArray)).push (seqObj "list" vs.toArray 0)=h1 at Cz keep ⊢;refine cO<|iR<|wpAny_call_entry_kw slot_list_sort ⟨_,Cz,rfl⟩ entry_list_sort ?_<|ksk_l1 _ _;rw[ksk_t4];have J0:s.heap.get? (s.heap.objs.size+1)=G:=yJ<|l7 _;generalize s.heap.objs.size+1=a at Cz J0 h ⊢;have ha:a<h1.objs.size:=cW Cz;have s1:=fe.update h1 a<|gz.mapSeq λ_=>(#[]:Array cJ);obtain⟨e1,NQ⟩:∃e1,(h1.update a<|gz.mapSeq λ_=>(#[]:Array cJ)).get? a=U (seqObj "list" #[] e1):=⟨_,get?_update_seq Cz λ_=>#[]⟩;unfold ksk_tree;refine cO<|listItems_at (s:={ s with heap:=h1 }) Cz rfl ?_;refine cO (listUpdate_at Cz rfl ?_ (by rw[de,dW];lia)<|e8 _);refine cO<|seqEpoch_at NQ rfl ?_;refine cO (wpAny_newTuple ?_<|by show vs.length<=_;rw[dW];lia);refine cO<|wpAny_newList ?_<|e8 _;refine iR ?_;have Ut:(h1.update a<|gz.mapSeq λ_=>(#[]:Array cJ)).objs.size=h1.objs.size:=Bd ..;have NP:((h1.update a<|gz.mapSeq λ_=>(#[]:Array cJ)).push<|seqObj "tuple" vs.toArray 0).objs.size=h1.objs.size+1:=by rw[size_push',Ut]
 have ND:((((h1.update a<|gz.mapSeq λ_=>(#[]:Array cJ)).push<|seqObj "tuple" vs.toArray 0).push<|seqObj "list" #[] 0)).get? a=U (seqObj "list" #[] e1):=cS _<|cS _ NQ;have Kj:((((h1.update a<|gz.mapSeq λ_=>(#[]:Array cJ)).push<|seqObj "tuple" vs.toArray 0).push<|seqObj "list" #[] 0)).get? (h1.objs.size+1)=U (seqObj "list" #[] 0):=by rw[←NP];exact dq _ rfl
 have Dy:∀b o,s.heap.get? b=U o->((((h1.update a<|gz.mapSeq λ_=>(#[]:Array cJ)).push<|seqObj "tuple" vs.toArray 0).push<|seqObj "list" #[] 0)).get? b=U o:=λb o e=>cS _ (cS _<|(s1.2 b λz=>by rw[z,J0]at e;cases e).trans<|keep b o e);show dg _ _ (ksk_rest a (.builtin "len") Ã vs.toArray e1<|.ref ((h1.update a<|gz.mapSeq λ_=>(#[]:Array cJ)).push<|seqObj "tuple" vs.toArray 0).objs.size) _ _ { s with heap:=((h1.update a<|gz.mapSeq λ_=>(#[]:Array cJ)).push<|seqObj "tuple" vs.toArray 0).push (seqObj "list" #[] 0) };rw[NP];have Kl:h1.objs.size+1≠a:=kc<|jJ ha;have Ki:s.heap.get? (h1.objs.size+1)=G:=by
  cases q:s.heap.get? (h1.objs.size+1)with
  |none=>rfl
  |some o=>exact absurd (cW<|keep _ _ q)<|Nat.not_lt_of_le<|l7 _
 generalize ((h1.update a<|gz.mapSeq λ_=>(#[]:Array cJ)).push<|seqObj "tuple" vs.toArray 0).push (seqObj "list" #[] 0)=h3 at ND Kj Dy ⊢;generalize h1.objs.size+1=kS at Kj Kl Ki ⊢;unfold ksk_rest;refine cO<|wpAny_rule ?_;rw[List.forIn_toArray];refine cO (ksk_fold (λi s'=>∃h' tk kA e,s' = { s with heap:=h',toks:=tk }/\(∀b o,s.heap.get? b=U o->h'.get? b=U o)/\h'.get? kS=U (seqObj "list" kA e)/\h'.get? a=U (seqObj "list" #[] e1)/\IntsAre kA.toList (kz.take i)) vs 0 _
  ⟨h3,s.toks,#[],0,rfl,Dy,Kj,ND,by simpa using IntsAre.nil⟩ (λj x s' hx hI=>?_) λs' hI=>?_)
 ·obtain⟨h',tk,kA,e,rfl,kp,hk,hA,hi⟩:=hI;simp only[yB]at hi ⊢;have hj:j<vs.length:=(dM.mp hx).1;obtain⟨p,eE,rfl,hp,hps,T6⟩:=hv j x hx;have xL:h'.IsList p eE:=by obtain⟨o,q1,q2⟩:=hp;exact⟨o,kp _ _ q1,q2⟩
  have Kk:kA.size<=vs.length:=by have h1:=hi.length;rw[dQ,kb]at h1;lia
  refine cO (wpAny_attempt<|Calls.call_len_list xL (by have:=pK;lia) ?_);have s2:=fe.update h' kS<|gz.mapSeq (·.push (.int eE.size<|tk+1));obtain⟨c2,Fb⟩:∃c2,(h'.update kS<|gz.mapSeq (·.push (.int eE.size<|tk+1))).get? kS=U (seqObj "list" (kA.push<|.int eE.size<|tk+1) c2):=⟨_,get?_update_seq hk (·.push (.int eE.size<|tk+1))⟩;have ek:kz.take (j+1)=kz.take j++[(eE.size:Int)]:=by rw[List.take_add_one,dY<|by lia,←T6,dG,dY<|by lia];rfl
  have ea:(kA.push<|cJ.int eE.size<|tk+1).toList=kA.toList++[cJ.int eE.size<|tk+1]:=by simp
  refine cO (listUpdate_at hk rfl ?_ (by rw[dW];lia)<|eQ (xY<|Array.size_push ..)<|by rw[dW];lia);refine dw ⟨rfl,_,tk+1+1,kA.push<|.int eE.size<|tk+1,c2,rfl,λb o q=>(s2.2 b λz=>by rw[z,Ki]at q;cases q).trans<|kp b o q,Fb,(s2.2 a Kl.symm).trans hA,by rw[ea,ek];exact ksk_snoc hi⟩
 ·obtain⟨h',tk,kA,e,rfl,kp,hk,hA,hi⟩:=hI;have hi:IntsAre kA.toList kz:=by have e3:kz.take (0+vs.length)=kz:=gG (by lia);rw[e3]at hi;exact hi
  have Kk:kA.size=vs.length:=by have h1:=hi.length;rw[dQ]at h1;lia
  refine cO<|listItems_at hk rfl ?_;have fin:∀st:SortSt,(arrOf st).map (·.2)=vs.toArray->failedOf st=G->dg (dz prog w) A.in1.in1 (ksk_tail a Ã e1 (.ref kS) st) (λfin s'=>∃v,fin=.done (.ret v)/\dg (dz prog w) A.in1 (ret<|.ref a) (λfin s'=>∃v,fin=.done (.ret v)/\Q v s') E s') E { s with heap:=h',toks:=tk }:=λst q1 q2=>by
   have s4:=fe.update h' kS<|gz.mapSeq λ_=>(#[]:Array cJ);have JW:(h'.update kS<|gz.mapSeq λ_=>(#[]:Array cJ)).get? a=U (seqObj "list" #[] e1):=(s4.2 a Kl.symm).trans hA;have s5:=fe.update (h'.update kS<|gz.mapSeq λ_=>(#[]:Array cJ)) a<|gz.mapSeq λ_=>(arrOf st).map (·.2);obtain⟨c2,Fb⟩:∃c2,((h'.update kS<|gz.mapSeq λ_=>(#[]:Array cJ)).update a<|gz.mapSeq λ_=>(arrOf st).map (·.2)).get? a=U (seqObj "list" ((arrOf st).map (·.2)) c2):=⟨_,get?_update_seq JW λ_=>(arrOf st).map (·.2)⟩;have Ee:((arrOf st).map (·.2)).size<=1000:=by rw[q1,de,hn];decide
   unfold ksk_tail
   try dsimp only
   refine cO (listUpdate_at hk rfl ?_ (by rw[Kk,dW];lia)<|e8 _);refine cO<|wpAny_letGo ?_;refine cO<|seqEpoch_at JW rfl ?_;refine cO (listUpdate_at JW rfl ?_ (e8 _)<|eQ Ee<|by rw[dW];lia);rw[q2];simp only[bne_self_eq_false,eM,if_false];refine dw ⟨_,rfl,dw ⟨_,rfl,h _ tk c2 (λb o q=>?_) ?_⟩⟩
   ·exact(s5.2 b λz=>by rw[z,J0]at q;cases q).trans ((s4.2 b λz=>by rw[z,Ki]at q;cases q).trans<|kp b o q)
   ·show c7.get? _ a=_;rw[←q1];exact Fb
  unfold ksk_end
  try dsimp only
  simp only[eM,if_false];have h2:¬vs.toArray.size<2:=by rw[de,hn];decide
  have hz:(kA.zip vs.toArray).size=2:=by rw[Array.size_zip,Kk,de,i7,hn]
  rw[if_neg h2,if_neg h2,ksk_kind hi<|by lia];refine cO<|dw ?_;refine cO (gb (wpS_sortRuns (a₀:=kA.zip vs.toArray) (Q:=λ_ wD=>(arrOf wD).Perm (kA.zip vs.toArray)/\failedOf wD=G/\SortedTo (arrOf wD) (kA.zip vs.toArray).size) (ksk_intKeys hi) ⟨Array.Perm.refl _,rfl,rfl,rfl⟩ (by lia) (by lia) λwD a1 a2 a3=>⟨a1,a2,a3⟩) ?_ λ_ _ e=>e);rintro⟨⟨⟩,wD⟩ s' ⟨rfl,q1,q2,q3⟩;exact fin wD (sL.mp<|hu _<|ksk_out (b:=false) hi q1<|by rw[q1.size_eq];exact q3) q2
end
section
open PySem
def FJ (K:cL)(a:cN)(xs:List V):Prop:=∃(o:gz) (eE:Array cJ) (n:Nat),K.lookup a=U o/\o.cls=.type "tuple"/\o.data=.seq eE n/\eE.size<=sizeLine/\ez xs eE.toList
theorem ej.rd {a:cN}{u:HO}(e:ej H H')(h:Rd H a u):Rd H' a u:=h.elim (λh=>.inl<|e _ _ h) λh=>.inr<|h.elim λo h=>⟨o,e _ _ h⟩
end
end L2
namespace PySem
variable {A:d6}{kw:List (Str×cJ)}{prog:eL}{s:cU}{w:d8}
section
variable {R:Result->cU->Prop}{I:cN}{fp wr:List cN}{n:Nat}{P:Nat->cJ->Prop}{St:Nat->c7->Prop}
theorem zty (W:Walks prog w A.in1 I fp wr n P St)(bt:Nat->Nat->Bool)(Bu:CmpOf prog w A.in1 .Gt P bt)(W':cN)(Dp:W'∉fp) :
    ∀(k j:Nat) (s:cU) (vb:cJ) (c:Nat),n-(j+1)=k->j+1<=n->St (j+1) s.heap->P (argBest bt j) vb ->
    s.heap.get? W'=U { cls:=.type "list",dict:=none,data:=.seq #[vb,vb] c,slots:=#[] } ->
    (∀v h' tk,P (argBest bt<|n-1) v->(∀b o,b∉wr->b≠W'->s.heap.get? b=U o->h'.get? b=U o)->R (.ok<|.ret v) { s with heap:=h',toks:=tk }) ->
    lx (dz prog w) A (.builtin "max.loop" ⟨[.ref I,.none,.ref W'],kw⟩) R s:=by
  have HR:W'∉wr:=λh=>Dp<|W.sub _ h;have vG:(toString "max"++toString ".loop":String) = "max.loop":=by decide
  intro k;induction k with
  |zero=>
    intro j s vb c hk hj lE HQ hS hR;have NN:j+1=n:=by lia
    refine codeAny_builtin F.entry_max_loop ?_;rw[d6.under_plainId F.plain_max_loop _];show dg _ A.in1 (seqItems? (.ref W') >>= _) _ _ s;refine cO<|wpAny_seqItems hS rfl ?_;show dg _ A.in1 (tryCatch (pyNext<|.ref I) _ >>= _) _ _ s;refine cO<|wpAny_tryCatch<|W.done s _ _ (NN▸lE) λh' tk A9=>?_;show dg _ A.in1 (updateSeq W' (λ_=>#[]) >>= _) _ _ _;refine cO<|wpAny_updateSeq (A9 W' _ HR hS) rfl<|cO<|wpAny_letGo<|dw ?_;exact hR vb _ tk (by rw[←NN];exact HQ) λb o Ag Cu e=>(fH _ _<|Ne.symm Cu).trans<|A9 b o Ag e
  |succ k ih=>
    intro j s vb c hk hj lE HQ hS hR;refine codeAny_builtin F.entry_max_loop ?_;rw[d6.under_plainId F.plain_max_loop _];show dg _ A.in1 (seqItems? (.ref W') >>= _) _ _ s;refine cO<|wpAny_seqItems hS rfl ?_;show dg _ A.in1 (tryCatch (pyNext<|.ref I) _ >>= _) _ _ s;refine cO (wpAny_tryCatch<|W.item (j+1) s _ _ (by lia) lE λv h' tk hP CD A9=>?_);have BZ:=A9 W' _ HR hS;show dg _ A.in1 (tryCatch (ir [v,v]<|richCompare .Gt v vb >>= _) _ >>= _) _ _ _;refine cO<|wpAny_tryCatch<|iR<|cO<|Bu (j+1) (argBest bt j) v vb _ _ _ hP HQ ?_;refine cO<|iR<|iO<|cO<|wpAny_letGo<|dw ?_;cases hb:bt (j+1) (argBest bt j)with
    |true=>
      simp only[if_true];refine cO<|wpAny_updateSeq BZ rfl<|cO<|wpAny_letGo ?_;rw[vG];refine dw ⟨plainId_quiet F.plain_max_loop _,ih (j+1) _ v _ (by lia) (by lia) (W.frame _ _ _ CD λb Gh o e=>(fH _ _<|λh:W'=b=>Dp (by rw[h];exact Gh)).trans e) (by simp only[argBest,hb,if_true];exact hP) (gS _ BZ rfl)
        λv' Gc BR Ge By=>hR v' Gc BR Ge λb o Ag Cu e=>By b o Ag Cu<|(fH _ _<|Ne.symm Cu).trans<|A9 b o Ag e⟩
    |false=>simp only[eM,if_false];refine cO<|wpAny_letGo ?_;rw[vG];exact dw ⟨plainId_quiet F.plain_max_loop _,ih (j+1) _ vb c (by lia) (by lia) CD (by simp only[argBest,hb,eM,if_false];exact HQ) BZ λv' Gc BR Ge By=>hR v' Gc BR Ge λb o Ag Cu e=>By b o Ag Cu<|A9 b o Ag e⟩
theorem YF {dk:Str}{d:cJ}(W:Walks prog w A.in1 I fp wr n P St)(bt:Nat->Nat->Bool)(Bu:CmpOf prog w A.in1 .Gt P bt)(W':cN)(Dp:W'∉fp){c:Nat}(lE:St 0 s.heap)
    (hS:s.heap.get? W'=U { cls:=.type "list",dict:=none,data:=.seq #[] c,slots:=#[] })
    (hR:∀v h' tk,(if n=0 then v=d else P (argBest bt<|n-1) v)->(∀b o,b∉wr->b≠W'->s.heap.get? b=U o->h'.get? b=U o)->R (.ok<|.ret v) { s with heap:=h',toks:=tk }) :
    lx (dz prog w) A (.builtin "max.loop" ⟨[.ref I,.none,.ref W'],[(dk,d)]⟩) R s:=by
  have HR:W'∉wr:=λh=>Dp<|W.sub _ h;have vG:(toString "max"++toString ".loop":String) = "max.loop":=by decide
  refine codeAny_builtin F.entry_max_loop ?_;rw[d6.under_plainId F.plain_max_loop _];show dg _ A.in1 (seqItems? (.ref W') >>= _) _ _ s;refine cO<|wpAny_seqItems hS rfl ?_;show dg _ A.in1 (tryCatch (pyNext<|.ref I) _ >>= _) _ _ s;by_cases hn:n=0
  · subst hn;refine cO<|wpAny_tryCatch<|W.done s _ _ lE λh' tk A9=>?_;have hd:=hR d h' tk rfl λb o Ag _ e=>A9 b o Ag e;refine cO ?_
    first|exact dw (dw hd)|exact wpAny_rule<|dw hd
  · refine cO (wpAny_tryCatch<|W.item 0 s _ _ (by lia) lE λv h' tk hP CD A9=>?_);have BZ:=A9 W' _ HR hS;show dg _ A.in1 (updateSeq W' (λ_=>#[v,v]) >>= _) _ _ _;refine cO<|wpAny_updateSeq BZ rfl ?_;rw[vG];refine dw ⟨plainId_quiet F.plain_max_loop _,zty W bt Bu W' Dp _ 0 _ v _ rfl (by lia) (W.frame _ _ _ CD λb Gh o e=>(fH _ _<|λh:W'=b=>Dp (by rw[h];exact Gh)).trans e) hP (gS _ BZ rfl) λv' Gc BR Ge By=>?_⟩;exact hR v' Gc BR (by rw[if_neg hn];exact Ge) λb o Ag Cu e=>By b o Ag Cu<|(fH _ _<|Ne.symm Cu).trans<|A9 b o Ag e
end
section
variable {E:cJ->cU->Prop}
theorem ztz {id:String}{b:Builtin}{args:List cJ}{Q:cJ->cU->Prop}(hk:builtinKind id=G)(hp:plainId id=Â)
  (hb:entryFor table id=U b) (ha:argsOk id ⟨args,kw⟩)
  (hc:dg (dz prog w) A.in1 (b ⟨args,kw⟩) (λfin s'=>match fin with
   |.done f=>(match (Except.ok f:Result)with|.ok (.ret v)=>Q v s'|.ok _=>False|.error e=>E e s')
   |.again c'=>c'.quiet=Â/\lx (dz prog w) A c' (λr s'=>match r with|.ok (.ret v)=>Q v s'|.ok _=>False|.error e=>E e s') s') E s) :
  dg (dz prog w) A (call (.builtin id) args kw) Q E s:=by
 refine wpAny_call<|codeAny_call_builtin hp hb ?_;simp only[checkBuiltinCall,hk];cases Kz:Manifest.signature? id with
 |none=>exact dw hc
 |some UZ=>
  have Fa:Bind.checkArgs id UZ ⟨args,kw⟩=pure ():=by simpa only[argsOk,Kz]using ha
  simp only[Fa];exact dw hc
theorem YG {x d:cJ}{Q:cJ->cU->Prop}
  (h:dg (dz prog w) A.in1 (pyIter x) (λit s₂=>∃I fp wr n P St bt,it=.ref I/\Walks prog w A.in1 I fp wr n P St/\St 0 s₂.heap/\(∀b∈fp,b<s₂.heap.objs.size)/\CmpOf prog w A.in1 .Gt P bt /\
   ∀v h' tk,(if n=0 then v=d else P (argBest bt<|n-1) v)->(∀b o,b∉wr->s₂.heap.get? b=U o->h'.get? b=U o)->Q v { s₂ with heap:=h',toks:=tk }) E s) :
  dg (dz prog w) A (call (.builtin "max") [x] [("default",d)]) Q E s:=by
 have vG:(toString "max"++toString ".loop":String) = "max.loop":=by decide
 refine ztz F.kind_max F.plain_max F.entry_max (by unfold argsOk;kernel_rfl) ?_;show dg _ A.in1 (Builtin.Builtins.bindParams "max" ["key","default"] 0 ⟨[],[("default",d)]⟩ >>= _) _ _ s;refine cO<|wpAny_of_eq (show Builtin.Builtins.bindParams "max" ["key","default"] 0 ⟨[],[("default",d)]⟩=pure [G,U d]from rfl) ?_;refine cO<|dw ?_;refine cO<|gb h (λit s₂ h₂=>?_) λ_ _ e=>e;obtain⟨I,fp,wr,n,P,St,bt,rfl,W,lE,Ke,Bu,hQ⟩:=h₂;refine cO<|oQ ?_;have Dp:s₂.heap.objs.size∉fp:=λhm=>iF _<|Ke _ hm;rw[vG];refine dw ⟨plainId_quiet F.plain_max_loop _,YF W bt Bu s₂.heap.objs.size Dp (W.frame _ _ _ lE λb _ o e=>cS _ e) (dq _ rfl) λv h' tk hP hk=>?_⟩;exact hQ v h' tk hP λb o Ag e=>hk b o Ag (dB<|cW e)<|cS _ e
end
end PySem
namespace L2
open PySem PyProof.Rows
variable {X:Cx}{cap:List Nat}{qL iter tg:Expr}{g:TG}{ifs:List Expr}{pos pos':mR}{scope:rY}{te:TE}{tt:TT}{wi:TI}{x:Str}
theorem Yc {i:Nat}{xW:mR}{N:List Str}{own:Nat}(B:pB X scope N own cap)(hc:X.calm=Â)(hi:PI X tg iter wi)
  (kg:lF own g)
  (hg:∀cl KK fp s₀ H₀,PG (nZ X scope cl N KK fp s₀ H₀) tg g) (ht:∀cl KK fp s₀ H₀,Di (nZ X scope cl N KK fp s₀ H₀) ifs tt) (he:∀cl KK fp s₀ H₀,PE (nZ X scope cl N KK fp s₀ H₀) qL te)
  (hN:X.N.Nodup) (Gp:X.N[i]?=U x) (hx:ë X.env.scope x) (Bz:gk (.ListComp qL [⟨tg,iter,ifs,0⟩] scope pos) (U<|.Name x pos') xW.line X.env=pure Â)
  (hs:A0 X iter:=by intro _;rfl) (hf:uQ X x:=by walk_at "v2") :
  PS X (.Assign [.Name x pos'] (.ListComp qL [⟨tg,iter,ifs,0⟩] scope pos) xW) (EJ (Aq wi own cap g tt te)<|Ae i):=by
 intro cM s Z H D I h;rw[exec_Assign_Name_used _ _ _ _ Bz];refine cO<|o9<|cO ?_;show dg _ X.A (do let _ ← comprehension (.ListComp qL [⟨tg,iter,ifs,0⟩] scope pos) scope X.env _ (newList []) Ã (eW iter X.env) (U<|o8 (.Name x pos') X.env)) _ _ s;refine cO<|gb (P7 (use:=some<|o8 (.Name x pos') X.env) (Q0:=λ_ s'=>∃σ' H',Ê X cM σ' H' s'/\D.nx σ' H') B hc hi kg hg ht he hs I h λDa KK H5 s6 r q I6 fo hm=>?_) (λ_ s' hq=>dw<|dw hq) λ_ _ e=>e;show dg _ X.A (o8 (.Name x pos') X.env<|.ref Da) _ _ _;refine wpAny_assign_Name<|Pa (v:=.ref Da) I6 hN Gp hx rfl (λs7 I7 Uh=>?_) hf;obtain⟨m,hm⟩:=hm;obtain⟨a,sb,ha⟩:=Uh;obtain⟨f0,f1,f2,f3,f4,f5⟩:=fo;have AJ:KK≠a:=by
  rcases ha with rfl|ha
  ·exact f1
  ·exactλz=>f4 x a ha z.symm
 refine⟨m,hm.sameBut sb AJ,λh' UY=>⟨_,H5,I7.turned (t':=s7.toks) (it:=KK) (λb o hb e=>UY.extBut b o hb e) f0 f1 f3 f4 f5,q⟩⟩
variable {P:eL}{tI:List Expr}{kt:Nat}{p:mR}
section
open PySem PySem.Spec PyProof.Rows
def JG (K:cL)(a b:cN):It :=
 ⟨λi H=>∃xs ys x y,(iE K H a xs/\iE K H b ys)/\xs[i]?=U x/\ys[i]?=U y,λi H x H'=>∃p u v,H p=G/\x=.ref p/\H'=upd H p (.tup [u,v])/\(∀xs,iE K H a xs->xs[i]?=U u)/\∀ys,iE K H b ys->ys[i]?=U v,
  λi H=>∃xs ys,(iE K H a xs/\iE K H b ys)/\(xs.length<=i\/ys.length<=i)⟩
theorem ZL {w:d8}{K:cL}{pt:mR}(z TI TO i1 i2 l1 l2:cN)(ap:ZipApart z TI TO i1 i2 l1 l2) :
    ô P w K (.Tuple tI kt pt) (JG K l1 l2) [z,TI,TO,i1,i2] z (λi h=>IsZip h z TI TO .none/\IsPair h TI (.ref i1) (.ref i2)/\(∃a b,IsPair h TO a b)/\h.IsListIter i1 l1 i/\h.IsListIter i2 l2 i) where
  mem:=by simp
  obj:=λi h st b hb=>by
    obtain⟨q1,q2,⟨a,b',q3⟩,⟨o4,e4,_,d4⟩,⟨o5,e5,_,d5⟩⟩:=st;simp only[cP,dm,or_false]at hb;rcases hb with rfl|rfl|rfl|rfl|rfl
    · exact⟨_,q1,λv y=>by cases y⟩
    · exact⟨_,q2,λv y=>by cases y⟩
    · exact⟨_,q3,λv y=>by cases y⟩
    · exact⟨_,e4,λv y=>by rw[d4]at y;cases y⟩
    · exact⟨_,e5,λv y=>by rw[d5]at y;cases y⟩
  keep:=λi h h' st k=>by obtain⟨q1,q2,⟨a,b',q3⟩,q4,q5⟩:=st;exact⟨k z (by simp) _ q1,k TI (by simp) _ q2,⟨a,b',k TO (by simp) _ q3⟩,q4.at λo x=>k i1 (by simp) o x,q5.at λo x=>k i2 (by simp) o x⟩
  item:=by
    intro X hP hw hK hc i cM s Z H E I hf st hg;subst hP hw hK;obtain⟨xs,ys,x,y,⟨hq,yG⟩,hx,hy⟩:=hg;obtain⟨eE,rv,p,hz⟩:=I.list hq;obtain⟨its',Iv,p',Ij⟩:=I.list yG;obtain⟨u,hu,ru⟩:=rv.get hx;obtain⟨u',B4,UX⟩:=Iv.get hy;obtain⟨q1,q2,⟨a,b',q3⟩,q4,q5⟩:=st;refine wpAny_pyNext_zip_item ap q1 q2 q3 q4 q5 p.isList p'.isList (x:=u) (y:=u') (by simpa using hu) (by simpa using B4) λh1 r1 r2 r3 r4 r5 hsz hk=>?_;refine⟨_,rfl,wpAny_letOwnedTupleGo_zip (s:={ s with heap:=h1 }) r1 λh2 Gn yI=>?_⟩;have Qx:z<s.heap.objs.size:=cW q1;have U8:TI<s.heap.objs.size:=cW q2;have UK:TO<s.heap.objs.size:=cW q3;have KS:i1<s.heap.objs.size:=by obtain⟨_,q,_⟩:=q4;exact cW q
    have Ux:i2<s.heap.objs.size:=by obtain⟨_,q,_⟩:=q5;exact cW q
    have Gg:h2.get? s.heap.objs.size=U { cls:=.type "tuple",data:=.seq #[u,u'] }:=(yI.2 _<|kc Qx).trans r5;have Kf:H s.heap.objs.size=G:=I.hok.fresh<|di _;have I1:Ê X cM Z (upd H s.heap.objs.size<|.tup [x,y]) { s with heap:=h2,toks:=s.toks }:=by refine I.turnLay (ch:=[z,TI,TO,i1,i2]) hf (λb o hb q=>?_) (di _) ⟨by show 2<=sizeLine;decide,[u,u'],.cons ru<|.cons UX .nil,_,Gg,rfl,_,rfl⟩;have b1:b≠z:=λe=>hb (by simp[e]);have b3:b≠TO:=λe=>hb (by simp[e]);have b4:b≠i1:=λe=>hb (by simp[e]);have b5:b≠i2:=λe=>hb (by simp[e]);exact(yI.2 b b1).trans<|hk b o b1 b3 b4 b5 q
    refine⟨.ref s.heap.objs.size,_,I1,rfl,⟨_,x,y,Kf,rfl,rfl,λzs KN=>by rw[I.list_inj KN hq];exact hx,λzs KN=>by rw[I.list_inj KN yG];exact hy⟩,⟨Gn,(yI.2 TI ap.TIz).trans<|hk TI _ ap.TIz ap.TITO ap.TIi1 ap.TIi2 q2,⟨_,_,(yI.2 TO ap.TOz).trans r2⟩,r3.at λo q=>(yI.2 i1 ap.i1z).trans q,r4.at λo q=>(yI.2 i2 ap.i2z).trans q⟩,λb hb=>?_⟩;rw[zo ?_]
    · exact(hf b hb).1
    · simp only[cP,dm,or_false]at hb;rcases hb with rfl|rfl|rfl|rfl|rfl
      · exact dB Qx
      · exact dB U8
      · exact dB UK
      · exact dB KS
      · exact dB Ux
  done:=by intro X hP hw hK hc i cM s Z H E I hf st hg;subst hP hw hK;obtain⟨xs,ys,⟨hq,yG⟩,hx⟩:=hg;obtain⟨eE,rv,p,hz⟩:=I.list hq;obtain⟨its',Iv,p',Ij⟩:=I.list yG;obtain⟨q1,q2,⟨a,b',q3⟩,q4,q5⟩:=st;have hl:=rv.length;have B1:=Iv.length;refine wpAny_pyNext_zip_end (I.ok.hd hc) ap q1 q2 q3 q4 q5 p.isList p'.isList (hx.imp (λh=>by simp;lia)<|λh=>by simp;lia) λh' eb=>⟨rfl,I.turnedL (ch:=[z,TI,TO,i1,i2]) (t':=s.toks) hf λb o hb q=>?_⟩;exact eb b o (λe=>hb<|by simp[e]) (λe=>hb<|by simp[e]) (λe=>hb<|by simp[e]) (λe=>hb<|by simp[e]) q
  self:=λ_ _ _ _ _ st h=>pU st.1 h
section
variable {pt:mR}
def KR (K:cL)(ta:TA):TI:=λZ H R=>ta Z H λvs H1=>∃a b,vs=[.ref a,.ref b]/\(∃xs ys,iE K H1 a xs/\iE K H1 b ys)/\R (JG K a b) H1
theorem ſ {l l':Expr}{ta:TA}(hg:Gl X "zip")(hm:X.mg "zip"=G)(ha:PA X [l,l'] ta)(hs:dJ [l,l'] X.env=[(Ã,eW l X.env),(Ã,eW l' X.env)]:=by rfl)(uU:SN X l':=by rfl) :
  PI X (.Tuple tI kt pt) (.Call (.Name "zip" p) [l,l'] [] pos) (KR X.K ta):=by
 intro cM s Z H R I h;refine Call_ (vd I hg hm tM<|eJ (gc (ha pos cM s Z H _ I h) λus s1 ⟨vs,H1,I1,r1,q1⟩=>?_) (by rw[hs,uU])<|by rw[uU];rfl);obtain⟨a,b,e,⟨xs,ys,hq,yG⟩,q⟩:=q1;subst e;cases r1 with
 |cons r rr=>
  cases rr with
  |cons r' rr=>
   cases rr;cases r;cases r';obtain⟨eE,rv,pl,hz⟩:=I1.list hq;obtain⟨its',Iv,N9,Ij⟩:=I1.list yG;have UA:a<s1.heap.objs.size:=by obtain⟨_,q,_⟩:=pl.isList;exact cW q
   have GI:b<s1.heap.objs.size:=by obtain⟨_,q,_⟩:=N9.isList;exact cW q
   refine call_zip_2 pl.isList N9.isList λh' r1 r2 r3 r4 r5 hsz hk=>?_;refine pU (s:={ s1 with heap:=h' }) r1 ?_;refine⟨_,[_,_,_,_,_],_,_,H1,rfl,I1.kept (t':=s1.toks) hk,(ZL _ _ _ _ _ a b<|zipApart_new UA GI).ok,⟨r1,r2,⟨_,_,r3⟩,r4,r5⟩,λc hb=>?_,q⟩;have:s1.heap.objs.size<=c:=by simp only[cP,dm,or_false]at hb;rcases hb with rfl|rfl|rfl|rfl|rfl<;>lia
   exact I1.fpOk this<|I1.hok.fresh this
end
end
variable {e:Expr}{p2:mR}
variable {KK f:cN}{CX:Cj}{fL:mR}{es:List Expr}{fd:cT}{m:Str}{o:Expr}{ps:List Str}{sp:Sp}{ta:TE}
variable {K':List (Str×cJ)}{h:c7}{ty:TE}
section
open PySem PySem.Spec PyProof.Rows
class inductive EL (w:d8):List DictEntry->List (Str×cJ)->Prop
 |nil:EL w [] []
 |cons {k:Str} {t:Tok} {v:cJ} {es:List DictEntry} {K':List (Str×cJ)}:EL w es K'->EL w (⟨dD.keyHash w.params k,.str k t,v⟩::es) ((k,v)::K')
structure KD (K:cL)(w:d8)(mg:Str->Option cJ)(x:Str)(da:cN)(K':List<|Str×cJ):Prop where
 mgx:mg x=U (.ref da)
 sy:(da==gK)=Ã
 ob:∃(es:Array DictEntry) (ep:Nat),K.lookup da=U ⟨.type "dict",G,.dict es ep,#[]⟩/\EL w es.toList K'
section
variable {w:d8}
theorem EL.keys {es:List DictEntry}(h:EL w es K'):∀e∈es,∃k,(strKind P w).is k e.key=Â/\e.hash=(strKind P w).hash k:=by
 induction h with
 |nil=>intro e h;cases h
 |@cons k t v es K' h ih=>
  intro e he;rcases cP.mp he with rfl|he
  ·exact⟨k,strKind_is P w k t,rfl⟩
  ·exact ih e he
theorem EL.find {es:List DictEntry}(h:EL w es K')(k:Str):(es.find? λe=>(strKind P w).is k e.key).map (·.val)=K'.lookup k:=by
 induction h with
 |nil=>rfl
 |@cons k' t v es K' h ih=>
  rw[fE,df];have:(strKind P w).is k (.str k' t)=(k==k'):=by
   show cJ.isStrOf k (.str k' t)=_;simp[cJ.isStrOf]
   first|rfl|exact Bool.beq_comm|(rw[BU];simp[eq_comm])
  dsimp only;rw[this];cases e:(k==k')with
  |true=>rfl
  |false=>exact ih
theorem KD.map {K:cL}{mg:Str->Option cJ}{da:cN}(D:KD K w mg x da K')(X:K.In h):h.MapOf (strKind P w) da (λk=>K'.lookup k):=by obtain⟨es,ep,l,q⟩:=D.ob;refine⟨_,es,ep,X _ _ l,⟨rfl,rfl,rfl⟩,rfl,λe he=>q.keys e<|vA.mp he,λk=>?_⟩;show findBy (PySem.strKind P w).is es k=K'.lookup k;rw[←q.find (P:=P) k];unfold findBy;rw[←zV]
end
section
variable {da:cN}{i:Expr}
def U4 (K':List<|Str×cJ)(ty:TE):TE:=λZ H Q=>ty Z H λy H1=>∃k u v,y=.str k/\K'.lookup k=U u/\Ì v u/\Q v H1
theorem Ő (D:KD X.K X.w X.mg x da K')(hg:Gl X x)(hi:PE X i ty)(hs:yS i)(hd:kW x):PE X (.Subscript (.Name x p) i pos) (U4 K' ty):=by intro cM s Z H Q I h;refine MA PySem.F.slot_dict_getitem.lookup hs<|vf I hg D.mgx (gc (hi cM s Z H _ I h) λiv s2 hq=>?_) hd;obtain⟨y,H2,I2,ry,k,u,v,ey,l,rv,q2⟩:=hq;subst ey;obtain⟨t,rfl⟩:=ry;have L':=D.map (P:=X.prog) I2.kIn;exact⟨L'.typeIs,wpAny_getItem_of (strKind_is X.prog X.w k t) L' l ⟨v,H2,I2.tok _,rv,q2⟩⟩
def DK (neg:Bool)(K':List<|Str×cJ)(ty:TE):TE:=λZ H Q=>ty Z H λy H1=>∃k,y=.str k/\Q (.bl<|if neg then !(K'.lookup k).isSome else(K'.lookup k).isSome) H1
theorem zt0 (D:KD X.K X.w X.mg x da K')(hg:Gl X x)(hi:PE X i ty)(hd:kW x):PC X .In i (.Name x p) (DK Ã K' ty):=by intro cM s Z H Q I h;refine gc (hi cM s Z H _ I h) λiv s1 ⟨y,H1,I1,ry,k,ey,q1⟩=>vf I1 hg D.mgx ?_ hd;subst ey;obtain⟨t,rfl⟩:=ry;exact wpAny_in_of (strKind_is X.prog X.w k t) D.sy (D.map (P:=X.prog) I1.kIn) ⟨.bl _,H1,I1.tok _,rfl,q1⟩
theorem Yd (D:KD X.K X.w X.mg x da K')(hg:Gl X x)(hi:PE X i ty)(hd:kW x):PC X .NotIn i (.Name x p) (DK Â K' ty):=by intro cM s Z H Q I h;refine gc (hi cM s Z H _ I h) λiv s1 ⟨y,H1,I1,ry,k,ey,q1⟩=>vf I1 hg D.mgx ?_ hd;subst ey;obtain⟨t,rfl⟩:=ry;exact wpAny_notIn_of (strKind_is X.prog X.w k t) D.sy (D.map (P:=X.prog) I1.kIn) ⟨.bl _,H1,I1.tok _,rfl,q1⟩
variable {E:XK}{t:TA}
def Lu (K':List<|Str×cJ)(F:Str->cN->Sp->Prop)(E:XK)(ty:TE)(t:TA):TE:=λZ H Q=>ty Z H λy H1=>∃k f sp,y=.str k/\K'.lookup k=U (.ref f)/\F k f sp/\t Z H1 λvs H2=>sp vs H2 Q E
theorem ž {F:Str->cN->Sp->Prop}(D:KD X.K X.w X.mg x da K')(hF:∀k f sp,F k f sp->∃kk fd ps,dR X.prog X.w X.K X.mg X.base CX kk f fd ps sp/\gu kk X.A/\fU X.K (.ref f)=Â/\gM X.K fd ps [])(hx:nz CX X E)(hg:Gl X x)(hi:PE X i ty)(hs:yS i)(ha:PA X (e::es) t)
  (hd:kW x) (he:SE X e es) (lW:pW X pos es) :
  PE X (.Call (.Subscript (.Name x p) i p2) (e::es) [] pos) (Lu K' F E ty t):=by
 intro cM s Z H Q I h;show dg _ _ (eW (.Subscript (.Name x p) i p2) X.env >>= λfv=>mS pos fv [] (i8 pos<|dJ (e::es) X.env)<|i9 pos<|fY [] X.env) _ _ s;refine cO<|MA PySem.F.slot_dict_getitem.lookup hs<|vf I hg D.mgx (gc (hi cM s Z H _ I h) λiv s2 hq=>?_) hd;obtain⟨y,H2,I2,ry,k,f,sp,ey,l,hf,q2⟩:=hq;subst ey;obtain⟨tk,rfl⟩:=ry;have L':=D.map (P:=X.prog) I2.kIn;refine⟨L'.typeIs,wpAny_getItem_of (strKind_is X.prog X.w k tk) L' l ?_⟩;obtain⟨kk,fd,ps,Fn,hr,hk,hb⟩:=hF k f sp hf;have I3:=I2.tok<|s2.toks+1;refine ky (h₀:=X.base) I.ok.mod.kin hk (gc (ha pos cM _ Z H2 _ I3 q2) λus s4 ⟨vs,H4,I4,r,q⟩=>⟨I4.kIn,?_⟩) he lW;exact HC (nP:=[]) (O:=[]) Fn hr hb .nil hx I4 r (by rw[dU];exact q)
end
end
variable {α β:Type}{E Q:cJ->cU->Prop}{H:Hp}{h':c7}{j:Nat}{cM:List (cN×gz)}{s:cU}{us vs:List cJ}{xs ys:List V}{Z:St}
section
open PySem PySem.Spec PyProof.Rows
section
variable {prog:eL}{w:d8}{A:d6}{ys:Array cJ}
theorem zt1 {it t:cN}{i:Nat}{x:cJ}(hit:s.heap.IsTupleIter it t i)(ht:s.heap.IsTuple t ys)(hx:ys[i]?=U x)
  (hQ:∀h',h'.IsTupleIter it t (i+1)->fe it s.heap h'->Q x { s with heap:=h' }):dg (dz prog w) A (Builtin.SmallTypes.nextOf<|.ref it) Q E s:=by
 obtain⟨o,ho,hc,hd⟩:=id hit;obtain⟨ol,Kv,_,nl,D7⟩:=ht;unfold Builtin.SmallTypes.nextOf;refine cO<|wpAny_callSpecial?_slot (name:=Str.ofString "__next__") hit.typeIs F.slot_tuple_iterator_next (wpAny_call_entry F.slot_tuple_iterator_next hit.typeIs F.entry_tuple_iterator_next ?_<|F.args_tuple_iterator_next_1 _);show dg _ _ (field (.ref it) 0 >>= _) _ _ s;refine cO<|wpAny_field ho hd (x:=.ref t) rfl ?_;show dg _ _ (if(cJ.ref t==cJ.none)=Â then _ else _) _ _ s;rw[if_neg<|show¬((cJ.ref t==cJ.none)=Â)from cZ];show dg _ _ (field (.ref it) 1 >>= _) _ _ s;refine cO<|wpAny_field ho hd (x:=.int i 0) rfl ?_;show dg _ _ (seqItems? (.ref t) >>= _) _ _ s;refine cO<|wpAny_seqItems Kv D7 ?_;simp only[fK,hx];refine cO (wpAny_setField ho hd (by simp)<|dw ⟨x,rfl,dw<|hQ _ ?_<|fe.update ..⟩);exact⟨_,gS _ ho<|gz.isFreed_of_fields<|gz.data_mapFields hd _,(gz.cls_mapFields ..).trans hc,by rw[gz.data_mapFields hd];simp[rawInt]⟩
theorem Ž {it t:cN}{i:Nat}(hh:A.handled=G)(hit:s.heap.IsTupleIter it t i)(ht:s.heap.IsTuple t ys)(hx:ys[i]?=G)
  (hE:∀h' e,c7.ExtBut it s.heap h'->(∃o,h'.get? e=U o/\o.cls=.type "StopIteration")->E (.ref e) { s with heap:=h' }):dg (dz prog w) A (Builtin.SmallTypes.nextOf<|.ref it) Q E s:=by
 obtain⟨o,ho,hc,hd⟩:=id hit;obtain⟨ol,Kv,_,nl,D7⟩:=ht;unfold Builtin.SmallTypes.nextOf;refine cO<|wpAny_callSpecial?_slot (name:=Str.ofString "__next__") hit.typeIs F.slot_tuple_iterator_next (wpAny_call_entry F.slot_tuple_iterator_next hit.typeIs F.entry_tuple_iterator_next ?_<|F.args_tuple_iterator_next_1 _);show dg _ _ (field (.ref it) 0 >>= _) _ _ s;refine cO<|wpAny_field ho hd (x:=.ref t) rfl ?_;show dg _ _ (if(cJ.ref t==cJ.none)=Â then _ else _) _ _ s;rw[if_neg<|show¬((cJ.ref t==cJ.none)=Â)from cZ];show dg _ _ (field (.ref it) 1 >>= _) _ _ s;refine cO<|wpAny_field ho hd (x:=.int i 0) rfl ?_;show dg _ _ (seqItems? (.ref t) >>= _) _ _ s;refine cO<|wpAny_seqItems Kv D7 ?_;simp only[fK,hx];refine cO (wpAny_rule<|cO<|wpAny_setField ho hd (by simp) ?_);show dg _ _ (newExc (.type "StopIteration") [] >>= _) _ _ _;refine cO ?_;simp only[newExc,newTuple];refine cO (oQ ?_<|by size_fits);refine cO (m:=firstArgMember _ _) (wpAny_of_eq (a:=cJ.none) (by first|rfl|(simp only[firstArgMember];rfl)) ?_);refine oQ ?_ (by size_fits);simp only[raiseNew];refine cO<|wpAny_handled ?_
 first|rw[show A.in1.handled=G from hh]|rw[hh]
 exact cO<|dw<|wpAny_throw<|hE _ _ (((fe.update ..).extBut.push _).push _) ⟨_,dq _ rfl,rfl⟩
end
structure Pt where
 i:cN
 l:cN
 tp:Bool
def Pt.it (p:Pt)(h:c7)(k:Nat):Prop:=match p.tp with|true=>h.IsTupleIter p.i p.l k|false=>h.IsListIter p.i p.l k
def Pt.src (p:Pt)(h:c7)(xs:Array cJ):Prop:=match p.tp with|true=>h.IsTuple p.l xs|false=>h.IsList p.l xs
abbrev rB (h:c7)(T:cN)(vs:List cJ):Prop:=h.get? T=U { cls:=.type "tuple",data:=.seq vs.toArray }
noncomputable abbrev gN (X:Pt->Array cJ)(k:Nat)(c:Pt):cJ:=(X c)[k]?.getD .none
abbrev Kp (h h':c7)(bs:List cN):Prop:=∀a o,a∉bs->h.get? a=U o->h'.get? a=U o
abbrev Up (h h':c7):Prop:=∀a o,h.get? a=U o->h'.get? a=U o
structure Zp (z TI TO:cN)(cs:List Pt):Prop where
 nd:(z::TI::TO::cs.map Pt.i).Nodup
 ls:∀c∈cs,c.l∉z::TO::cs.map Pt.i
section
variable {prog:eL}{w:d8}{A:d6}{z TI TO:cN}{c:Pt}{cs:List Pt}{k:Nat}{xs:Array cJ}
theorem Pt.it.to (x:c.it h k)(e:∀o,h.get? c.i=U o->h'.get? c.i=U o):c.it h' k:=by
 obtain⟨i,l,tp⟩:=c;cases tp
 ·exact c7.IsListIter.at x e
 ·exact c7.IsTupleIter.at x e
theorem Pt.src.to (x:c.src h xs)(e:∀o,h.get? c.l=U o->h'.get? c.l=U o):c.src h' xs:=by
 obtain⟨i,l,tp⟩:=c;cases tp
 ·exact c7.IsList.at x e
 ·exact c7.IsTuple.at x e
theorem zt2 {v:cJ}(x:c.it s.heap k)(y:c.src s.heap xs)(hx:xs[k]?=U v)
  (hQ:∀h',c.it h' (k+1)->fe c.i s.heap h'->Q v { s with heap:=h' }):dg (dz prog w) A (Builtin.SmallTypes.nextOf<|.ref c.i) Q E s:=by
 obtain⟨i,l,tp⟩:=c;cases tp
 ·exact wpAny_nextOf_list_item x y hx hQ
 ·exact zt1 x y hx hQ
theorem ż (hh:A.handled=G)(x:c.it s.heap k)(y:c.src s.heap xs)(hx:xs[k]?=G)
  (hE:∀h' e,c7.ExtBut c.i s.heap h'->(∃o,h'.get? e=U o/\o.cls=.type "StopIteration")->E (.ref e) { s with heap:=h' }):dg (dz prog w) A (Builtin.SmallTypes.nextOf<|.ref c.i) Q E s:=by
 obtain⟨i,l,tp⟩:=c;cases tp
 ·exact wpAny_nextOf_list_end hh x y hx hE
 ·exact Ž hh x y hx hE
theorem LI {T:cN}{x:cJ}{Q:Unit->cU->Prop}(hz:vs.length<=100)(hT:rB s.heap T vs)
  (h:∀h',rB h' T (vs.set j x)->fe T s.heap h'->Q () { s with heap:=h' }) :
  dg (dz prog w) A (updateSeq T (·.setIfInBounds j x)) Q E s:=by
 refine wpAny_updateSeq hT rfl (h _ ?_<|fe.update ..) (by show vs.toArray.size<=16777216;simp;lia) (by show _<=16777216+1;simp;lia);unfold rB;rw[gS _ hT rfl];simp[gz.mapSeq]
theorem DB {X:Pt->Array cJ}{Q:Option cJ->cU->Prop}(hh:A.handled=G)(ne:cs≠[])(D:Zp z TI TO cs)(zA:cs.length<=100)(hz:IsZip s.heap z TI TO .none)
    (HS:rB s.heap TI<|cs.map λc=>.ref c.i) (HU:rB s.heap TO us) (hu:us.length=cs.length) (hc:∀c∈cs,c.it s.heap k) (hX:∀c∈cs,c.src s.heap<|X c)
    (hQ:∀h',(∀c∈cs,(X c)[k]?=U (gN X k c))->IsZip h' z TI TO (rawInt s.heap.objs.size)->rB h' TO (cs.map<|gN X k)->rB h' s.heap.objs.size (cs.map<|gN X k)->(∀c∈cs,c.it h'<|k+1)->Kp s.heap h' (z::TO::cs.map Pt.i)->Q (U<|.ref s.heap.objs.size) { s with heap:=h' })
    (hN:∀h',(∃c∈cs,(X c)[k]?=G)->Kp s.heap h' (z::TO::cs.map Pt.i)->Q G { s with heap:=h' }):dg (dz prog w) A (pyNext<|.ref z) Q E s:=by
  have hT:s.TypeIs (.ref z) "zip":=⟨_,hz,rfl⟩;unfold pyNext;refine cO<|wpAny_attempt<|wpAny_callSpecial?_slot (name:=Str.ofString "__next__") hT F.slot_zip_next (wpAny_call_entry F.slot_zip_next hT F.entry_zip_next ?_<|F.args_zip_next_1 _);show dg _ _ (field (.ref z) 2 >>= _) _ _ _;refine cO<|wpAny_field hz rfl (x:=.bool Ã) rfl ?_;show dg _ _ (field (.ref z) 3 >>= _) _ _ _;refine cO<|wpAny_field hz rfl (x:=.ref TI) rfl ?_;refine cO<|wpAny_seqItems HS rfl ?_;have ie:(cs.map λc=>cJ.ref c.i).toArray.isEmpty=Ã:=by cases cs with|nil=>exact absurd rfl ne|cons a l=>rfl
  dsimp only;rw[ie];show dg _ _ (Builtin.SmallTypes.ownedTupleIsFree (.ref z) >>= _) _ _ _;refine cO ?_;unfold Builtin.SmallTypes.ownedTupleIsFree;refine cO<|wpAny_field hz rfl (x:=.none) rfl<|dw ?_;simp only[if_true];refine cO<|wpAny_rule ?_;refine cO<|wpAny_field hz rfl (x:=.ref TO) rfl ?_;refine cO (wpAny_setField_rec hz (by simp) λh₁ KO Ie=>?_);replace KO:IsZip h₁ z TI TO .ellipsis:=KO;have nd:=D.nd;simp only[dO,cP,not_or]at nd;obtain⟨⟨zI,zO,zi⟩,⟨IO,Ii⟩,Oi,ni⟩:=nd;refine cO ?_;refine wpAny_forIn_list _ (λl b s'=>b=⟨G,()⟩/\∃pre Î h,cs=pre++Î/\l=(Î.map λc=>cJ.ref c.i).zipIdx pre.length/\(∀c∈pre,(X c)[k]?=U (gN X k c))/\s' = { s with heap:=h } /\
    IsZip h z TI TO .ellipsis/\rB h TO (pre.map (gN X k)++us.drop pre.length)/\(∀c∈pre,c.it h<|k+1)/\(∀c∈Î,c.it h k)/\h.objs.size=s.heap.objs.size/\Kp s.heap h (z::TO::cs.map Pt.i)) _ ?_ ?_ _ _ ?_
  · rintro x l b s' ⟨rfl,pre,Î,h,ec,el,ev,rfl,hz,hO,hp,hr,hn,hf⟩;cases Î with
    |nil=>cases el
    |cons c Î=>
      rw[dC,Bg]at el;cases el;have cm:c∈cs:=by rw[ec];simp
      have mi:∀c'∈cs,c'.i∈cs.map Pt.i:=λc' h=>eZ h;have cl:=D.ls c cm;simp only[cP,not_or]at cl;have ca:=hr c cK;have cx:c.src h (X c):=(hX c cm).to λo=>hf _ o<|D.ls c cm;have ci:∀c'∈pre++Î,c'.i≠c.i:=λc' h' e=>by
        rw[ec,kM,dC,c8]at ni;obtain⟨_,n2,n3⟩:=ni;rcases dc.mp h' with h'|h'
        · exact n3 _ (eZ h') _ cK e
        · exact(dO.mp n2).1<|e▸eZ h'
      have sub:∀c'∈pre++Î,c'∈cs:=λc' h'=>by rw[ec];rcases dc.mp h' with h'|h'<;>simp[h']
      refine cO<|wpAny_onRaise ?_;show dg _ _ (Builtin.SmallTypes.nextOf (.ref c.i) >>= _) _ _ _;cases hx:(X c)[k]? with
      |none=>
        refine cO<|ż hh ca cx hx λh₂ e Eh he=>?_;obtain⟨oe,Kt,NJ⟩:=he;have NY:IsZip h₂ z TI TO .ellipsis:=Eh _ _ (λe=>zi<|e▸mi c cm) hz;have TX:e≠z:=λx=>by subst x;rw[NY]at Kt;cases Kt;simp at NJ
        exact wpAny_setField_rec NY (by simp) λh₃ _ Ej=>cO (wpAny_isInstance (T:="StopIteration") (b:=true) ⟨oe,Ej.extBut _ _ TX Kt,NJ⟩ isSubtype_stop<|dw<|hN h₃ ⟨c,cm,hx⟩ λa o na x=>Ej.extBut _ _ (λe=>na<|e▸cK) (Eh _ _ (λe=>na<|by rw[e];simp[mi c cm])<|hf a o na x))
      |some v=>
        refine cO<|zt2 ca cx hx λh₂ a₂ Eh=>dw ?_;have NA:rB h₂ TO (pre.map (gN X k)++us.drop pre.length):=Eh.extBut _ _ (λe=>Oi<|e▸mi c cm) hO;refine cO<|wpAny_seqItems NA rfl ?_;have lu:pre.length<us.length:=by rw[hu,ec];simp
        refine cO (LI (by rw[ec]at zA hu;simp at zA hu ⊢;lia) NA λh₃ NB Ej=>?_);refine cO<|wpAny_letGo<|dw ?_;have T:∀a o,a≠TO->a≠c.i->h.get? a=U o->h₃.get? a=U o:=λa o x y e=>Ej.extBut _ _ x<|Eh.extBut _ _ y e;have kp:∀c'∈pre++Î,∀j,c'.it h j->c'.it h₃ j:=λc' h' j q=>q.to λo=>T _ o (λe=>Oi<|e▸mi c' (sub c' h'))<|ci c' h';refine⟨rfl,pre++[c],Î,h₃,by simp[ec],by simp,λc' h'=>?_,rfl,Ej.extBut _ _ zO<|Eh.extBut _ _ (λe=>zi<|e▸mi c cm) hz,?_,λc' h'=>?_,λc' h'=>kp c' (by simp[h']) _<|hr c'<|by simp[h'],Ej.1.trans<|Eh.1.trans hn,λa o na e=>T a o (λe=>na<|by simp[e]) (λe=>na<|by rw[e];simp[mi c cm])<|hf a o na e⟩
        · rcases dc.mp h' with h'|h'
          · exact ev c' h'
          · cases ef.mp h';rw[gN,hx];rfl
        · rw[List.set_append_right _ _<|by simp,dr,Nat.sub_self,hU lu,List.set_cons_zero]at NB;simpa[gN,hx]using NB
        · rcases dc.mp h' with h'|h'
          · exact kp c' (by simp[h']) _<|hp c' h'
          · cases ef.mp h';exact a₂.to λo=>Ej.extBut _ _ λe=>Oi<|e▸mi c cm
  · rintro b s' ⟨rfl,pre,Î,h,ec,el,ev,rfl,hz,hO,hp,hr,hn,hf⟩;have er:Î=[]:=by cases Î with|nil=>rfl|cons=>rw[dC,Bg]at el;cases el
    subst er;rw[dU]at ec;subst ec;rw[←hu,List.drop_length,dU]at hO;have Ff:(cs.map<|gN X k).length<=100:=by simpa using zA
    generalize (cs.map<|gN X k)=vs at hO hQ Ff;refine cO<|wpAny_seqItems hO rfl ?_;refine cO (wpAny_newTuple ?_<|by show vs.toArray.toList.length<=16777216;simp;lia);have hl:z<h.objs.size:=cW hz;show dg _ _ (Builtin.SmallTypes.ownedTupleHandOut (.ref z) (.ref h.objs.size) >>= _) _ _ _;refine cO ?_;unfold Builtin.SmallTypes.ownedTupleHandOut;have Uu:IsZip (h.push { cls:=.type "tuple",data:=.seq vs.toArray }) z TI TO .ellipsis:=cS _ hz;refine cO (wpAny_setField_rec Uu (by simp) λh₉ KP NV=>?_);replace KP:IsZip h₉ z TI TO (rawInt h.objs.size):=KP;refine wpAny_setField_rec KP (by simp) λha Ik NU=>?_;replace Ik:IsZip ha z TI TO (rawInt h.objs.size):=Ik;have up:∀c o,c≠z->h.get? c=U o->ha.get? c=U o:=λc o c1 e=>NU.extBut _ _ c1<|NV.extBut _ _ c1<|cS _ e;have NC:rB ha h.objs.size vs:=NU.extBut _ _ (kc hl)<|NV.extBut _ _ (kc hl)<|dq _ rfl;rw[hn]at Ik NC;refine dw ⟨_,rfl,dw ?_⟩;show Q (U<|.ref h.objs.size) _;rw[hn];exact hQ ha ev Ik (up _ _ (Ne.symm zO) hO) NC (λc h'=>(hp c h').to λo=>up _ o λe=>zi<|e▸eZ h') λa o na e=>up _ _ (λe=>na<|by simp[e])<|hf a o na e
  · exact⟨rfl,[],cs,h₁,rfl,rfl,nofun,rfl,KO,Ie.extBut _ _ (Ne.symm zO) HU,nofun,λc h'=>(hc c h').to λo=>Ie.extBut _ _ λe=>zi (e▸eZ h'),Ie.1,λa o na=>Ie.extBut _ _ λe=>na (by simp[e])⟩
end
noncomputable abbrev Pt.q (p:Pt):cN×Bool:=(p.l,p.tp)
def Sq (K:cL)(H:Hp)(q:cN×Bool)(xs:List V):Prop:=match q.2 with|true=>pX K H q.1 xs|false=>iE K H q.1 xs
def Ni (K:cL)(qs:List<|cN×Bool):It :=
 ⟨λi H=>∀q∈qs,∃xs,Sq K H q xs/\∃v,xs[i]?=U v,
  λi H x H'=>∃(p:cN) (g:cN×Bool->V),H p=G/\x=.ref p/\H'=upd H p (.tup<|qs.map g)/\∀q∈qs,∀xs,Sq K H q xs->xs[i]?=U (g q),
  λi H=>(∀q∈qs,∃xs,Sq K H q xs)/\∃q∈qs,∃xs,Sq K H q xs/\xs.length<=i⟩
theorem í [Nonempty β]{qs:List α}{P:α->β->Prop}(h:∀q∈qs,∃y,P q y):∃f:α->β,∀q∈qs,P q (f q) :=
 ⟨λq=>Classical.epsilon<|P q,λq hq=>Classical.epsilon_spec<|h q hq⟩
theorem Ê.sq (I:Ê X cM Z H s){f:cN×Bool->List V}(ps:List Pt)(h:∀q∈ps.map Pt.q,Sq X.K H q<|f q) :
  ∃c:cN×Bool->List cJ,∀p∈ps,ez (f p.q) (c p.q)/\p.src s.heap (c p.q).toArray:=by
 have:=Classical.skolem.mp λq=>show∃y:List cJ,∀p∈ps,p.q=q->ez (f q) y/\p.src s.heap y.toArray from by
  by_cases hq:q∈ps.map Pt.q
  ·have hs:=h q hq;obtain⟨l,tp⟩:=q;cases tp with
   |false=>obtain⟨eE,rv,p,_⟩:=I.list hs;refine⟨eE,λp' _ e=>⟨rv,?_⟩⟩;obtain⟨i,l',tp⟩:=p';cases e;exact p.isList
   |true=>obtain⟨eE,rv,p,_⟩:=I.tuple hs;refine⟨eE,λp' _ e=>⟨rv,?_⟩⟩;obtain⟨i,l',tp⟩:=p';cases e;exact p
  ·exact⟨[],λp hp e=>absurd (e▸eZ hp) hq⟩
 obtain⟨c,hc⟩:=this;exact⟨c,λp hp=>hc _ p hp rfl⟩
theorem Sq.inj (I:Ê X cM Z H s){q:cN×Bool}(a:Sq X.K H q xs)(b:Sq X.K H q ys):xs=ys:=by
 obtain⟨l,tp⟩:=q;cases tp
 ·exact I.list_inj a b
 ·exact I.tuple_inj a b
theorem Qa {g:Pt->V}{u:Pt->cJ}:∀ps:List Pt,(∀p∈ps,Ì (g p)<|u p)->ez (ps.map g) (ps.map u)
 |[],_=>.nil
 |p::ps,h=>.cons (h p cK)<|Qa ps λq hq=>h q<|cQ _ hq
theorem Hn {w:d8}{K:cL}{pt:mR}{z TI TO:cN}{ps:List Pt}(ap:Zp z TI TO ps)(ne:ps≠[])(zA:ps.length<=100) :
  ô P w K (.Tuple tI kt pt) (Ni K<|ps.map Pt.q) (z::TI::TO::ps.map Pt.i) z (λi h=>IsZip h z TI TO .none/\rB h TI (ps.map λc=>.ref c.i)/\(∃us,rB h TO us/\us.length=ps.length)/\∀c∈ps,c.it h i) where
 mem:=by simp
 obj:=λi h st b hb=>by
  obtain⟨q1,q2,⟨us,q3,_⟩,q4⟩:=st;simp only[cP]at hb;rcases hb with rfl|rfl|rfl|hb
  ·exact⟨_,q1,λv y=>by cases y⟩
  ·exact⟨_,q2,λv y=>by cases y⟩
  ·exact⟨_,q3,λv y=>by cases y⟩
  ·obtain⟨c,hc,rfl⟩:=dP.mp hb;have:=q4 c hc;obtain⟨ci,l,tp⟩:=c;cases tp<;>obtain⟨o,e,_,d⟩:=this<;>exact⟨o,e,λv y=>by rw[d]at y;cases y⟩
 keep:=λi h h' st k=>by obtain⟨q1,q2,⟨us,q3,l⟩,q4⟩:=st;exact⟨k z (by simp) _ q1,k TI (by simp) _ q2,⟨us,k TO (by simp) _ q3,l⟩,λc hc=>(q4 c hc).to λo=>k c.i (by simp only[cP];exact .inr<|.inr<|.inr<|eZ hc) o⟩
 item:=by
  intro X hP hw hK hc i cM s Z H E I hf st hg;subst hP hw hK;obtain⟨f,HV⟩:=í hg;obtain⟨g,T3⟩:=@í _ V ⟨.non⟩ _ _ λq hq=>(HV q hq).2;have HW:∀q∈ps.map Pt.q,Sq X.K H q (f q)/\(f q)[i]?=U (g q):=λq hq=>⟨(HV q hq).1,T3 q hq⟩;obtain⟨c,Gk⟩:=I.sq ps λq hq=>(HW q hq).1;obtain⟨q1,q2,⟨us,q3,l⟩,q4⟩:=st;have val:∀p∈ps,∃u,(c p.q).toArray[i]?=U u/\Ì (g p.q) u:=λp hp=>by obtain⟨u,hu,ru⟩:=(Gk p hp).1.get (HW p.q<|eZ hp).2;exact⟨u,by simpa using hu,ru⟩
  refine DB (X:=λp=>(c p.q).toArray) (I.ok.hd hc) ne ap zA q1 q2 q3 l q4 (λp hp=>(Gk p hp).2) (λh1 _ r1 r2 r5 r4 hk=>?_) λh' hx=>?_
  ·refine⟨_,rfl,wpAny_letOwnedTupleGo_zip (s:={ s with heap:=h1 }) r1 λh2 Gn yI=>?_⟩;have nd:=ap.nd;simp only[dO,cP,not_or]at nd;obtain⟨⟨zI,zO,zi⟩,⟨IO,Ii⟩,_⟩:=nd;have lt:∀b∈z::TI::TO::ps.map Pt.i,b<s.heap.objs.size:=λb hb=>by
    simp only[cP]at hb;rcases hb with rfl|rfl|rfl|hb
    ·exact cW q1
    ·exact cW q2
    ·exact cW q3
    ·obtain⟨c,hc,rfl⟩:=dP.mp hb;have:=q4 c hc;obtain⟨ci,l,tp⟩:=c;cases tp<;>obtain⟨o,e,_⟩:=this<;>exact cW e
   have Gg:=(yI.2 _<|kc<|lt z cK).trans r5;have I1:Ê X cM Z (upd H s.heap.objs.size<|.tup<|(ps.map Pt.q).map g) { s with heap:=h2,toks:=s.toks }:=by
    refine I.turnLay hf (λb o hb q=>?_) (di _) ⟨by show _<=16777216;simp;lia,_,?_,_,Gg,rfl,_,rfl⟩
    ·simp only[cP,not_or]at hb;exact(yI.2 b hb.1).trans (hk b o (by simp only[cP,not_or];exact⟨hb.1,hb.2.2⟩) q)
    ·rw[fk];exact Qa ps λp hp=>by obtain⟨u,hu,ru⟩:=val p hp;rw[gN,hu];exact ru
   refine⟨.ref s.heap.objs.size,_,I1,rfl,⟨_,g,I.hok.fresh<|di _,rfl,rfl,λq hq xs hs=>by rw[Sq.inj I hs (HW q hq).1];exact(HW q hq).2⟩,
    ⟨Gn,(yI.2 TI<|Ne.symm zI).trans<|hk TI _ (by simp only[cP,not_or];exact⟨Ne.symm zI,IO,Ii⟩) q2,⟨_,(yI.2 TO<|Ne.symm zO).trans r2,by simp⟩,λc hc=>(r4 c hc).to λo q=>(yI.2 c.i λe=>zi<|e▸eZ hc).trans q⟩,λb hb=>?_⟩
   rw[zo<|dB<|lt b hb];exact(hf b hb).1
  ·obtain⟨p,hp,e⟩:=hx;obtain⟨u,hu,_⟩:=val p hp;rw[hu]at e;cases e
 done:=by
  intro X hP hw hK hc i cM s Z H E I hf st hg;subst hP hw hK;obtain⟨HX,q,hq,xs,hx,hl⟩:=hg;obtain⟨f,HX⟩:=í HX;rw[←Sq.inj I (HX q hq) hx]at hl;obtain⟨c,Gk⟩:=I.sq ps HX;obtain⟨q1,q2,⟨us,q3,l⟩,q4⟩:=st;obtain⟨p,hp,rfl⟩:=dP.mp hq;refine DB (X:=λp=>(c p.q).toArray) (I.ok.hd hc) ne ap zA q1 q2 q3 l q4 (λp hp=>(Gk p hp).2) (λh1 r0 _ _ _ _ _=>?_) λh' _ eb=>⟨rfl,I.turnedL (t':=s.toks) hf λb o hb q=>eb b o (λe=>hb ?_) q⟩
  ·have:=(Gk p hp).1.length;have:=r0 p hp;rw[show(c p.q).toArray[i]?=G by simp;lia]at this;cases this
  ·simp only[cP]at e ⊢;rcases e with e|e|e
   ·exact .inl e
   ·exact .inr<|.inr<|.inl e
   ·exact .inr<|.inr<|.inr e
 self:=λ_ _ _ _ _ st h=>pU st.1 h
section
variable {prog:eL}{w:d8}{A:d6}{qs:List (cN×Bool)}{Y':cN×Bool->Array cJ}
theorem GD {q:cN×Bool}{xs:Array cJ}(hs:(⟨0,q.1,q.2⟩:Pt).src s.heap xs)
  (hQ:∀h',(⟨s.heap.objs.size,q.1,q.2⟩:Pt).it h' 0->h'.objs.size=s.heap.objs.size+1->Up s.heap h'->Q (.ref s.heap.objs.size) { s with heap:=h' }):dg (dz prog w) A (pyIter<|.ref q.1) Q E s:=by
 obtain⟨l,tp⟩:=q;cases tp
 ·exact uK hs<|hQ _ ⟨_,dq _ rfl,rfl,rfl⟩ (gQ ..) λa o=>cS _
 ·exact wpAny_pyIter_tuple hs<|hQ _ ⟨_,dq _ rfl,rfl,rfl⟩ (gQ ..) λa o=>cS _
theorem BB {Q:List cJ->cU->Prop}(hs:∀q∈qs,(⟨0,q.1,q.2⟩:Pt).src s.heap<|Y' q)
  (hQ:∀h' (ps:List Pt),ps.map Pt.q=qs->ps.map Pt.i=ip s.heap.objs.size qs.length->(∀p∈ps,p.it h' 0)->h'.objs.size=s.heap.objs.size+qs.length->Up s.heap h'->Q (ps.map λp=>.ref p.i) { s with heap:=h' }) :
  dg (dz prog w) A (Builtin.SmallTypes.iterAll<|qs.map λq=>.ref q.1) Q E s:=by
 unfold Builtin.SmallTypes.iterAll;refine cO<|wpAny_forIn_list _ (λl b s'=>∃(Î:List<|cN×Bool) (ps:List Pt) (h:c7),qs=ps.map Pt.q++Î/\l=Î.map (λq=>cJ.ref q.1)/\b=(ps.map λp=>cJ.ref p.i).toArray/\s' = { s with heap:=h } /\
  ps.map Pt.i=ip s.heap.objs.size ps.length/\(∀p∈ps,p.it h 0)/\h.objs.size=s.heap.objs.size+ps.length/\Up s.heap h) _ ?_ ?_ _ _ ⟨qs,[],s.heap,rfl,rfl,rfl,rfl,rfl,nofun,rfl,λ_ _ e=>e⟩
 ·rintro x l b s' ⟨Î,ps,h,ec,el,rfl,rfl,ei,hp,hn,hf⟩;cases Î with
  |nil=>cases el
  |cons q Î=>
   cases el;refine cO (iR<|GD (xs:=Y' q) ((hs q<|by rw[ec];simp).to λo=>hf _ o) λh' a b c=>dw ?_);refine⟨Î,ps++[⟨h.objs.size,q.1,q.2⟩],h',by rw[ec];simp,rfl,by simp,rfl,?_,λp xL=>?_,?_,λa o e=>c _ _<|hf a o e⟩
   ·simp[ei,hn,List.range'_concat]
   ·rcases dc.mp xL with xL|xL
    ·exact(hp p xL).to λo=>c _ o
    ·cases ef.mp xL;exact a
   ·rw[b];show h.objs.size+1=_;rw[hn];simp;lia
 ·rintro b s' ⟨Î,ps,h,ec,el,rfl,rfl,ei,hp,hn,hf⟩;cases Î with
  |cons=>cases el
  |nil=>
   rw[dU]at ec;have el:qs.length=ps.length:=by rw[ec];simp
   exact dw (hQ h ps ec.symm (by rw[ei,el]) hp (by rw[hn,el]) hf)
end
theorem Eu (qs:List<|cN×Bool)(Y':cN×Bool->Array cJ)(zA:qs.length<=100) :
    Meets (Builtin.«zip.__new__» ⟨.type "zip"::qs.map (λq=>.ref q.1),[]⟩) (λ_ R s=>(∀q∈qs,(⟨0,q.1,q.2⟩:Pt).src s.heap<|Y' q) /\
      ∀h' (ps:List Pt),ps.map Pt.q=qs->ps.map Pt.i=ip s.heap.objs.size qs.length->(∀p∈ps,p.it h' 0)->IsZip h' (s.heap.objs.size+qs.length+2) (s.heap.objs.size+qs.length) (s.heap.objs.size+qs.length+1) .none ->
        rB h' (s.heap.objs.size+qs.length) (ps.map λp=>.ref p.i)->rB h' (s.heap.objs.size+qs.length+1) (ps.map λ_=>.none)->Up s.heap h' ->
        R (.ok<|.ret<|.ref<|s.heap.objs.size+qs.length+2) { s with heap:=h' }) :=
  .of_wp λprog w A R s h=>by
    obtain⟨h1,h2⟩:=h;have KA:=sub_zip;unfold Builtin.«zip.__new__»
    wp_walk using BB h1
    intro h' ps eq ei hp hn hf;have hl:ps.length=qs.length:=by rw[←eq];simp
    rw[fk];refine cO (wpAny_newTuple ?_<|by show _<=16777216;simp;lia);refine cO (wpAny_newTuple ?_<|by show _<=16777216;simp;lia)
    wp_walk
    refine⟨_,rfl,?_⟩;generalize eT:({ cls:=.type "tuple",data:=.seq (ps.map λp=>cJ.ref p.i).toArray }:gz)=oT;generalize eO:({ cls:=.type "tuple",data:=.seq (ps.map<|(λ_=>cJ.none) ∘ λp=>cJ.ref p.i).toArray }:gz)=oO;have n1:(h'.push oT).objs.size=s.heap.objs.size+qs.length+1:=by rw[gQ,hn]
    have n2:((h'.push oT).push oO).objs.size=s.heap.objs.size+qs.length+2:=by rw[gQ,n1]
    show R (.ok<|.ret<|.ref ((h'.push oT).push oO).objs.size) { s with heap:=((h'.push oT).push oO).push { cls:=.type "zip",data:=.fields #[.none,.bool Ã,.bool Ã,.ref h'.objs.size,.ref (h'.push oT).objs.size] } };have up:∀o a b,h'.get? a=U b->(((h'.push oT).push oO).push o).get? a=U b:=λo a b e=>cS _<|cS _<|cS _ e;have gT:∀o,(((h'.push oT).push oO).push o).get? h'.objs.size=U oT:=λo=>cS _ (cS _<|dq _<|by rw[←eT];rfl);have gO:∀o,(((h'.push oT).push oO).push o).get? (h'.push oT).objs.size=U oO:=λo=>cS _ (dq _<|by rw[←eO];rfl);have gZ:∀o:gz,o.isFreed=Ã->(((h'.push oT).push oO).push o).get? ((h'.push oT).push oO).objs.size=U o:=λo e=>dq _ e;rw[n2]at gZ ⊢;rw[n1]at gO ⊢;rw[hn]at gT ⊢;exact h2 _ ps eq ei (λp xL=>(hp p xL).to λo=>up _ _ o) (gZ _ rfl) ((gT _).trans<|by rw[←eT]) ((gO _).trans<|by rw[←eO];rfl) λa o e=>up _ _ _<|hf a o e
theorem Qb:∀{qs:List (cN×Bool)} {us:List cJ},ez (qs.map λq=>.ref q.1) us->us=qs.map λq=>.ref q.1
 |[],_,.nil=>rfl
 |q::qs,_,.cons r t=>by rw[Qb t];cases r;rfl
theorem Zp.new {n:Nat}{ps:List Pt}(ei:ps.map Pt.i=ip n ps.length)(hl:∀p∈ps,p.l<n):Zp (n+ps.length+2) (n+ps.length) (n+ps.length+1) ps where
 nd:=by rw[ei];simp only[dO,cP,not_or,sd];exact⟨⟨by simp only[cN]at *;lia,by simp only[cN]at *;lia,by simp only[cN]at *;lia⟩,⟨by simp only[cN]at *;lia,by simp only[cN]at *;lia⟩,by simp only[cN]at *;lia,List.nodup_range'⟩
 ls:=λc hc=>by have:=hl c hc;rw[ei];simp only[cP,not_or,sd];exact⟨by simp only[cN]at *;lia,by simp only[cN]at *;lia,by simp only[cN]at *;lia⟩
section
variable {pt:mR}
def GA (K:cL)(m:Nat)(ta:TA):TI:=λZ H R=>ta Z H λvs H1=>∃qs:List (cN×Bool),qs.length=m/\vs=qs.map (λq=>.ref q.1)/\(∀q∈qs,∃xs,Sq K H1 q xs)/\R (Ni K qs) H1
theorem UM {ta:TA}{m:Nat}(m0:m≠0)(m1:m<=100)
  (ok:∀us:List cJ,us.length=m->checkTypeCall "zip" ⟨us,[]⟩=pure ()/\checkBuiltinCall "zip.__new__" ⟨.type "zip"::us,[]⟩=pure ()/\∀obj,argsOk "object.__init__" ⟨obj::us,[]⟩)
  (hg:Gl X "zip") (hm:X.mg "zip"=G) (ha:PA X (e::es) ta) (he:SE X e es) (hp:pW X pos es) :
  PI X (.Tuple tI kt pt) (.Call (.Name "zip" p) (e::es) [] pos) (GA X.K m ta):=by
 intro cM s Z H R I h;refine Call_<|vd I hg hm tM<|eJ (gc (ha pos cM s Z H _ I h) λus s1 hq=>?_) he hp;obtain⟨vs,H1,I1,r1,qs,hl,rfl,hf,q⟩:=hq;obtain⟨f,hf⟩:=í hf;have eu:=Qb r1;subst eu;obtain⟨o1,o2,o3⟩:=ok (qs.map λq=>.ref q.1) (by simpa using hl);have mm:(qs.map λq=>(⟨0,q.1,q.2⟩:Pt)).map Pt.q=qs:=by rw[fk];exact List.map_id _
 obtain⟨c,hc⟩:=I1.sq (qs.map λq=>(⟨0,q.1,q.2⟩:Pt)) (f:=f) (by rw[mm];exact hf);have hs:∀q∈qs,(⟨0,q.1,q.2⟩:Pt).src s1.heap (c q).toArray:=λq hq=>(hc ⟨0,q.1,q.2⟩<|dP.mpr ⟨q,hq,rfl⟩).2;refine callType_new F.called_zip (by decide) o1 o2 o3 F.entry_zip_new (Eu qs (λq=>(c q).toArray)<|by lia) ⟨hs,λh' ps eq ei hp hz HS HU hk=>?_⟩;have pl:ps.length=qs.length:=by rw[←eq];simp
 show _/\_;refine⟨⟨_,hz,rfl⟩,pU (s:={ s1 with heap:=h' }) hz ?_⟩;rw[←pl]at hz HS HU ei ⊢;have lt:∀p∈ps,p.l<s1.heap.objs.size:=λp hp=>by have:=hs p.q<|eq▸eZ hp;obtain⟨i,l,tp⟩:=p;cases tp<;>obtain⟨_,q,_⟩:=this<;>exact cW q
 refine⟨_,_,_,_,H1,rfl,I1.kept (t':=s1.toks) hk,(Hn (Zp.new ei lt) (λe=>m0<|by rw[←hl,←pl,e];rfl)<|by lia).ok,⟨hz,HS,⟨_,HU,by simp⟩,hp⟩,λb hb=>?_,eq▸q⟩;have:s1.heap.objs.size<=b:=by rw[ei]at hb;simp only[cP,sd]at hb;simp only[cN]at *;lia
 exact I1.fpOk this<|I1.hok.fresh this
end
end
variable {O:List cJ}{nP:List V}
end L2
namespace PySem
variable {A:d6}{kw:List (Str×cJ)}{prog:eL}{w:d8}
variable {s:cU}
end PySem
namespace L2
open PySem PySem.Spec PyProof.Rows
variable {E Q:cJ->cU->Prop}{X:Cx}{e:Expr}{p2 pos:mR}{s:cU}{te:TE}{x:Str}
section
variable {sl sp:Expr}{tl tp:TO}
theorem XQ {prog:eL}{w:d8}{A:d6}{y:Str}{t u:Tok}(hy:(y.length==0)=Ã)(hx:x.length<=sizeLine)(hn:(Txt.split x y).length<=sizeLine)
    (h:∀(l:List<|Str×Tok) k,l.map (·.1)=Txt.split x y->Q (.ref s.heap.objs.size) { s with heap:=s.heap.push { cls:=.type "list",data:=.seq (strValues l).toArray },toks:=k }):dg (dz prog w) A (call (.builtin "str.split") [.str x t,.str y u]) Q E s:=by
  cases h1:(decide (x.length<y.length) || decide (PySem.Builtin.Str.strKind x<PySem.Builtin.Str.strKind y))with
  |true=>exact my F.slot_str_split (typeIs_str _ _ _) F.entry_str_split (F.args_str_split_2 _ _) (meets_str_split_cannot_occur x y t u h1) (h [(x,t)] s.toks<|by unfold Txt.split;rw[if_pos h1];rfl)
  |false=>
    cases hf:(Builtin.Str.occurrences x y 0 x.length<|x.length+1).isEmpty with
    |true=>exact my F.slot_str_split (typeIs_str _ _ _) F.entry_str_split (F.args_str_split_2 _ _) (meets_str_split_not_found x y t u h1 hy hf) (h [(x,t)] s.toks<|by unfold Txt.split;rw[h1,if_neg cZ,if_pos hf];rfl)
    |false=>
      have e:Txt.split x y=Builtin.Str.partsBetween x (Builtin.Str.occurrences x y 0 x.length<|x.length+1) y.length:=by unfold Txt.split;rw[h1,if_neg cZ,hf,if_neg cZ]
      rw[e]at hn;refine my F.slot_str_split (typeIs_str _ _ _) F.entry_str_split (F.args_str_split_2 _ _) (meets_str_split_sep x y t u h1 hy hf hx hn) ?_;have:=h (numbered s.toks<|Builtin.Str.partsBetween x (Builtin.Str.occurrences x y 0 x.length<|x.length+1) y.length) (s.toks+(Builtin.Str.partsBetween x (Builtin.Str.occurrences x y 0 x.length<|x.length+1) y.length).length)<|(numbered_texts _ _).trans e.symm;rw[←strsFrom_eq]at this;exact this
theorem nV:∀l:List (Str×Tok),ez ((l.map (·.1)).map V.str) (strValues l)
 |[]=>.nil
 |(x,t)::l=>.cons ⟨t,rfl⟩<|nV l
def EI:V->List V->Hp->VK->Prop:=λx vs H Q=>∃y z,x=.str y/\vs=[.str z]/\(z.length==0)=Ã/\y.length<=sizeLine/\(Txt.split y z).length<=sizeLine/\∀p,H p=G->Q (.ref p) (upd H p<|.lst<|(Txt.split y z).map V.str)
theorem Qc:Dh X "str.split" EI:=by intro cM s Z H x vs v us Q I rx rv h;obtain⟨y,z,rfl,rfl,hz,hy,hn,q⟩:=h;obtain⟨tk,rfl⟩:=rx;obtain⟨u,rfl,ru⟩:=rv.one;obtain⟨tu,rfl⟩:=ru;refine XQ hz hy hn λl k e=>?_;rw[←e]at hn q;refine⟨.ref _,_,I.laid (t':=k) (o:=.lst<|(l.map (·.1)).map V.str) (λb ob q=>cS _ q) (di _) ?_,rfl,q _<|I.hok.fresh<|di _⟩;exact⟨by rw[dr];exact hn,_,0,nV l,dq _ rfl⟩
theorem yj:jK X (.type "int") (λxs H Q=>∃y i,xs=[.str y]/\PySem.intText? y=U i/\y.length<=640/\Q (.int i) H):=by intro cM s Z H xs us Q I r h;obtain⟨y,i,rfl,hi,hl,q⟩:=h;obtain⟨u,rfl,rx⟩:=tD r;obtain⟨tk,rfl⟩:=rx;exact PySem.W.KIN.call_text hi hl ⟨.int i,H,I.tok _,⟨_,rfl⟩,q⟩
end
def BN (K:cL)(x:V)(H:Hp)(Q:VK):Prop:=∃(a p q:cN) (xs ys:List V),x=.ref a/\iE K H a [.ref p,.ref q]/\iE K H p xs/\iE K H q ys/\xs.length<ys.length/\∀r,H r=G->Q (.ref r) (upd H r<|.lst [.ref p,.ref q])
variable {p:mR}{ta:TE}
theorem ZM {kp:mR}(hg:Gl X "sorted")(hm:X.mg "sorted"=G)(Bw:Gl X "len")(Ai:X.mg "len"=G)(ha:PE X e ta)(he:SE X e []:=by rfl) :
  PE X (.Call (.Name "sorted" p) [e] [⟨U "key",.Name "len" p2,kp⟩] pos) (λZ H Q=>ta Z H λx H1=>BN X.K x H1 Q):=by
 intro cM s Z H Q I h;refine fR (vd (u:=.builtin "sorted") I hg hm YS ?_ (by decide)<|by decide);refine sk (gc ((ye ha xx he) pos cM s Z H (λvs H1=>match vs with|[x]=>BN X.K x H1 Q|_=>False) I ?_) λus s1 ⟨vs,H1,I1,r,q⟩=>?_) (by rw[he];rfl) (by rw[he];rfl)
 ·exact h
 ·match vs,q with
  |[x],q=>
   obtain⟨u,rfl,ru⟩:=r.one;show dg _ _ (evalAll ((do let v ← eW (.Name "len" p2) X.env;kN pos;pure v)::[])) _ _ s1;refine wpAny_evalAll_cons (cO<|vd (u:=.builtin "len") I1 Bw Ai Rh ?_ (by decide)<|by decide);refine cO<|o9<|dw<|wpAny_evalAll_nil ?_;obtain⟨a,p,q,xs,ys,rfl,hq,hx,hy,lt,k⟩:=q;cases(show u=cJ.ref a from ru);obtain⟨eE,rv,pl,hz⟩:=I1.list hq;obtain⟨_,_,rfl,r1,r2⟩:=rv.two;cases r1;cases r2;have sz:∀{b:cN} {zs:List V},iE X.K H1 b zs->∃eE:Array cJ,cJ.ref b=.ref b/\s1.heap.IsList b eE/\eE.size<=sizeLine/\(zs.length:Int)=eE.size:=λh=>by obtain⟨ts,rt,pt,tz⟩:=I1.list h;have:=rt.length;exact⟨ts.toArray,rfl,pt.isList,by rw[de];lia,by rw[de];lia⟩
   refine Yb (vs:=[.ref p,.ref q]) (kz:=[(xs.length:Int),(ys.length:Int)]) pl.isList rfl rfl (λout ⟨ps,h1,h2,h3⟩=>?_) (λi v hv=>?_) λh' tk c keep Ee=>?_
   ·rcases ksk_perm2 h1 with rfl|rfl
    ·exact h2
    ·have:(ys.length:Int)<=xs.length:=(List.pairwise_cons.mp h3).1 _ cK;lia
   ·rcases i with _|_|i
    ·cases hv;exact⟨p,sz hx⟩
    ·cases hv;exact⟨q,sz hy⟩
    ·cases hv
   ·refine⟨.ref _,_,I1.laid (a:=s1.heap.objs.size+1) (o:=.lst [.ref p,.ref q]) (t':=tk) (λb u hb=>keep b u hb) (l7 _) ?_,rfl,k _<|I1.hok.fresh<|l7 _⟩;exact⟨by rw[dW];exact Nat.le_of_ble_eq_true rfl,_,c,.cons rfl<|.cons rfl .nil,Ee⟩
variable {tg:Expr}
variable {f:cN}{fd:cT}{ps:List Str}{sp:Sp}
def EH:V->List V->Hp->VK->Prop:=λx vs H Q=>∃y z,x=.str y/\vs=[.str z]/\(z.length==0)=Ã/\y.length<=sizeLine/\∀p,H p=G->Q (.ref p) (upd H p<|.tup [.str (Txt.rpartition y z).1,.str (Txt.rpartition y z).2.1,.str (Txt.rpartition y z).2.2])
theorem ZN:Dh X "str.rpartition" EH:=by
 intro cM s Z H x vs v us Q I rx rv h;obtain⟨y,z,rfl,rfl,hz,hy,q⟩:=h;obtain⟨tk,rfl⟩:=rx;obtain⟨u,rfl,ru⟩:=rv.one;obtain⟨tu,rfl⟩:=ru;refine my F.slot_str_rpartition (typeIs_str _ _ _) F.entry_str_rpartition (F.args_str_rpartition_2 _ _) (meets_str_rpartition y z tk tu hz hy) ?_;unfold Txt.rpartition at q
 revert q
 cases Builtin.Str.lastOccurrence y z 0 y.length with
 |none=>exactλq=>⟨.ref _,_,I.laid (t':=_) (o:=.tup [.str _,.str _,.str _]) (λb ob q=>cS _ q) (di _) ⟨by show 3<=sizeLine;decide,_,.cons ⟨_,rfl⟩<|.cons ⟨_,rfl⟩<|.cons ⟨_,rfl⟩ .nil,⟨_,dq _ rfl,rfl,_,rfl⟩⟩,rfl,q _<|I.hok.fresh<|di _⟩
 |some i=>exactλq=>⟨.ref _,_,I.laid (t':=_) (o:=.tup [.str _,.str _,.str _]) (λb ob q=>cS _ q) (di _) ⟨by show 3<=sizeLine;decide,_,.cons ⟨_,rfl⟩<|.cons ⟨_,rfl⟩<|.cons ⟨_,rfl⟩ .nil,⟨_,dq _ rfl,rfl,_,rfl⟩⟩,rfl,q _<|I.hok.fresh<|di _⟩
end L2
namespace Fq
noncomputable def dv (t b:Int):Int:=if b<0 then -((Int.gcd t b:Nat):Int)else((Int.gcd t b:Nat):Int)
def mk (t b:Int):Int×Int:=(t.fdiv<|dv t b,b.fdiv<|dv t b)
end Fq
namespace L3
open PySem PySem.Spec L2
open PyProof.Rows hiding St
inductive D where
 |non|bl (b:Bool)|int (i:Int)|str (x:Str)
 |lst (xs:List D)|tup (xs:List D)|dK (ks:List kL) (O:List D)|dT (ks:List<|List kL) (O:List D)
 |obj (c:Nat) (ns:List Str) (O:List D)
 |exc (c:Nat) (ns:List Str) (O:List D)
 |kt (xs:List D)
 |cel (xs:List D)
 deriving Inhabited
class inductive Pr (R:D->V->Prop):List D->List V->Prop
 |nil:Pr R [] []
 |cons {d:D} {v:V} {O:List D} {vs:List V}:R d v->Pr R O vs->Pr R (d::O) (v::vs)
variable {R:D->V->Prop}{O:List D}
theorem Pr.mono {R':D->V->Prop}(f:∀d v,R d v->R' d v){vs:List V}(h:Pr R O vs):Pr R' O vs:=by
 induction h with
 |nil=>exact .nil
 |cons h t ih=>exact .cons (f _ _ h) ih
theorem Pr.length {vs:List V}(h:Pr R O vs):O.length=vs.length:=by
 induction h with
 |nil=>rfl
 |cons h t ih=>rw[cX,cX,ih]
variable {d:D}{i:Nat}
theorem Pr.get' {vs:List V}(h:Pr R O vs)(e:O[i]?=U d):∃v,vs[i]?=U v/\R d v:=by
 induction h generalizing i with
 |nil=>cases e
 |cons h t ih=>
  cases i with
  |zero=>cases e;exact⟨_,rfl,h⟩
  |succ i=>exact ih e
variable {us:List V}
theorem Pr.append {es:List D}{vs:List V}(h:Pr R O vs)(s:Pr R es us):Pr R (O++es) (vs++us):=by
 induction h with
 |nil=>exact s
 |cons h t ih=>exact .cons h ih
theorem Pr.take {vs:List V}(n:Nat)(h:Pr R O vs):Pr R (O.take n) (vs.take n):=by
 induction h generalizing n with
 |nil=>cases n<;>exact .nil
 |cons h t ih=>cases n with
  |zero=>exact .nil
  |succ n=>exact .cons h<|ih n
theorem Pr.drop {vs:List V}(n:Nat)(h:Pr R O vs):Pr R (O.drop n) (vs.drop n):=by
 induction h generalizing n with
 |nil=>cases n<;>exact .nil
 |cons h t ih=>cases n with
  |zero=>exact .cons h t
  |succ n=>exact ih n
theorem Pr.reverse {vs:List V}(h:Pr R O vs):Pr R O.reverse vs.reverse:=by
 induction h with
 |nil=>exact .nil
 |cons h t ih=>rw[AW,AW];exact ih.append<|.cons h .nil
theorem Pr.rep {vs:List V}(h:Pr R O vs)(k:Nat):Pr R (cY k O).flatten (cY k vs).flatten:=by
 induction k with
 |zero=>exact .nil
 |succ k ih=>rw[gA,jH,gA,jH];exact h.append ih
mutual
inductive Dt (K:cL)(J:Nat->cN)(F:Hp):D->V->Prop
 |non:Dt K J F .non .non
 |bl (b:Bool):Dt K J F (.bl b) (.bl b)
 |int (i:Int):Dt K J F (.int i) (.int i)
 |str (x:Str):Dt K J F (.str x) (.str x)
 |lst {a:cN} {vs:List V} {O:List D}:iE K F a vs->â K J F O vs->Dt K J F (.lst O) (.ref a)
 |tup {a:cN} {vs:List V} {O:List D}:F a=U (.tup vs)->â K J F O vs->Dt K J F (.tup O) (.ref a)
 |dK {a:cN} {ks:List kL} {vs:List V} {O:List D}:F a=U (.dK<|ks.zip vs)->ks.length=vs.length->â K J F O vs->Dt K J F (.dK ks O) (.ref a)
 |dT {a:cN} {ks:List (List kL)} {vs:List V} {O:List D}:Rd F a (.dT<|ks.zip vs)->ks.length=vs.length->â K J F O vs->Dt K J F (.dT ks O) (.ref a)
 |obj {a dx:cN} {c:Nat} {ns:List Str} {vs:List V} {O:List D}:F a=U (.ins (J c) dx<|ns.zip vs)->ns.length=vs.length->â K J F O vs->Dt K J F (.obj c ns O) (.ref a)
 |exc0 {a:cN} {c:Nat} {tb:Option cN}:F a=U (OA a (J c) G tb)->Dt K J F (.exc c [] []) (.ref a)
 |exc {a dx:cN} {c:Nat} {tb:Option cN} {ns:List Str} {vs:List V} {O:List D}:F a=U (OA a (J c) (U dx) tb)->F dx=U (.xd<|ns.zip vs)->ns.length=vs.length->â K J F O vs->Dt K J F (.exc c ns O) (.ref a)
 |kt {a:cN} {vs:List V} {O:List D}:FJ K a vs->â K J F O vs->Dt K J F (.kt O) (.ref a)
 |cel {a:cN} {O:List D}:Dt K J F (.cel O) (.ref a)
inductive â (K:cL)(J:Nat->cN)(F:Hp):List D->List V->Prop
 |nil:â K J F [] []
 |cons {d:D} {v:V} {O:List D} {vs:List V}:Dt K J F d v->â K J F O vs->â K J F (d::O) (v::vs)
end
variable {B B' F F' V' G' H H':Hp}{K:cL}{J:Nat->cN}
theorem â.pr {vs:List V}(h:â K J F O vs):Pr (Dt K J F) O vs:=by
 induction O generalizing vs with
 |nil=>cases h;exact .nil
 |cons d O ih=>cases h with|cons h t=>exact .cons h<|ih t
theorem â.of {vs:List V}(h:Pr (Dt K J F) O vs):â K J F O vs:=by
 induction h with
 |nil=>exact .nil
 |cons h t ih=>exact .cons h ih
theorem Dt.mono (s:ej F F'){v:V}(h:Dt K J F d v):Dt K J F' d v :=
 Dt.rec (motive_1:=λd v _=>Dt K J F' d v) (motive_2:=λd v _=>â K J F' d v) .non .bl .int .str (λh _ t=>.lst (s.seq h) t) (λh _ t=>.tup (s _ _ h) t) (λh l _ t=>.dK (s _ _ h) l t) (λh l _ t=>.dT (s.rd h) l t) (λh l _ t=>.obj (s _ _ h) l t) (λh=>.exc0<|s _ _ h) (λh h' l _ t=>.exc (s _ _ h) (s _ _ h') l t) (λh _ t=>.kt h t) .cel .nil (λ_ _ h t=>.cons h t) h
def D.sc:D->Bool
 |.non=>Â|.bl _=>Â|.int _=>Â|.str _=>Â|_=>Ã
class inductive EY (K:cL)(J:Nat->cN)(F V':Hp)(R:D->V->Prop):D->V->Prop
 |lst {a:cN} {vs:List V} {O:List D}:V' a=U (.lst vs)->Pr R O vs->EY K J F V' R (.lst O) (.ref a)
 |tup {a:cN} {vs:List V} {O:List D}:F a=U (.tup vs)->Pr R O vs->EY K J F V' R (.tup O) (.ref a)
 |dK {a:cN} {ks:List kL} {vs:List V} {O:List D}:V' a=U (.dK<|ks.zip vs)->ks.length=vs.length->Pr R O vs->EY K J F V' R (.dK ks O) (.ref a)
 |dT {a:cN} {ks:List (List kL)} {vs:List V} {O:List D}:Rd V' a (.dT<|ks.zip vs)->ks.length=vs.length->Pr R O vs->EY K J F V' R (.dT ks O) (.ref a)
 |obj {a dx:cN} {c:Nat} {ns:List Str} {vs:List V} {O:List D}:V' a=U (.ins (J c) dx<|ns.zip vs)->ns.length=vs.length->Pr R O vs->EY K J F V' R (.obj c ns O) (.ref a)
def Al (K:cL)(J:Nat->cN)(F V':Hp):Nat->D->V->Prop
 |0,d,v=>Dt K J F d v
 |n+1,d,v=>Dt K J F d v\/EY K J F V' (Al K J F V' n) d v
class inductive iH (R:D->V->List cN->Prop):List D->List V->List cN->Prop
 |nil:iH R [] [] []
 |cons {d:D} {v:V} {O:List D} {vs:List V} {f g:List cN}:R d v f->iH R O vs g->iH R (d::O) (v::vs) (f++g)
def kY (K:cL)(J:Nat->cN)(F H:Hp)(ns:List Str)(O:List D)(vs:List V)(fb:List cN):Prop:=match (ns.zip O).lookup ("puts":Str)with
 |some (.cel es)=>∃b us,(ns.zip vs).lookup ("puts":Str)=U (.ref b)/\fb=[b]/\F b=G/\H b=U (.lst us)/\Pr (Dt K J F) es us
 |_=>fb=[]
class inductive Ac (K:cL)(J:Nat->cN)(F H:Hp)(R:D->V->List cN->Prop):D->V->List cN->Prop
 |lst {a:cN} {vs:List V} {O:List D} {fp:List cN}:F a=G->H a=U (.lst vs)->iH R O vs fp->Ac K J F H R (.lst O) (.ref a) (a::fp)
 |tup {a:cN} {vs:List V} {O:List D} {fp:List cN}:F a=U (.tup vs)->iH R O vs fp->Ac K J F H R (.tup O) (.ref a) fp
 |dK {a:cN} {ks:List kL} {vs:List V} {O:List D} {fp:List cN}:F a=G->H a=U (.dK<|ks.zip vs)->ks.length=vs.length->iH R O vs fp->Ac K J F H R (.dK ks O) (.ref a) (a::fp)
 |dT {a:cN} {ks:List (List kL)} {vs:List V} {O:List D} {fp:List cN}:F a=G->H a=U (.dT<|ks.zip vs)->ks.length=vs.length->iH R O vs fp->Ac K J F H R (.dT ks O) (.ref a) (a::fp)
 |obj {a dx:cN} {c:Nat} {ns:List Str} {vs:List V} {O:List D} {fb fp:List cN}:F a=G->H a=U (.ins (J c) dx<|ns.zip vs)->ns.length=vs.length->kY K J F H ns O vs fb->iH R O vs fp->Ac K J F H R (.obj c ns O) (.ref a) (a::(fb++fp))
def Ow (K:cL)(J:Nat->cN)(F H:Hp):Nat->D->V->List cN->Prop
 |0,d,v,fp=>Dt K J F d v/\fp=[]
 |n+1,d,v,fp=>(d.sc=Â/\Dt K J F d v/\fp=[])\/Ac K J F H (Ow K J F H n) d v fp
def oR (o:HO):Prop:=∀xs,o≠.tup xs
structure kR (F H F' H':Hp):Prop where
 ff:ej F F'
 hh:ej H H'
 fh:ej F' H'
 nf:∀a o,H a=U o->oR o->F a=G->F' a=G
theorem kR.refl (h:ej F H):kR F H F H:=⟨.refl _,.refl _,h,λ_ _ _ _ h=>h⟩
variable {F1 H1:Hp}
theorem kR.trans {F2 H2:Hp}(a:kR F H F1 H1)(b:kR F1 H1 F2 H2):kR F H F2 H2 :=
 ⟨a.ff.trans b.ff,a.hh.trans b.hh,b.fh,λc o h t n=>b.nf c o (a.hh _ _ h) t<|a.nf c o h t n⟩
theorem kR.newO {p:cN}(s:ej F H)(h:H p=G)(o:HO):kR F H F (upd H p o) :=
 ⟨.refl _,wm h o,s.trans<|wm h o,λ_ _ _ _ h=>h⟩
theorem kR.newS {p:cN}(s:ej F H)(h:H p=G)(o:HO):kR F H (upd F p o) (upd H p o) :=
  ⟨wm (s.free h) o,wm h o,λb u q=>by
    by_cases e:b=p
    · subst e;rw[zu]at q ⊢;exact q
    · rw[zo e]at q ⊢;exact s _ _ q,
   λb u q _ n=>by rw[zo<|z7 q h];exact n⟩
variable {F0:Hp}{fb fp:List cN}{ks:List kL}{n:Nat}{x:Str}
theorem Al.mono (sF:ej F F')(sG:ej V' G'):∀{d:D} {v:V},Al K J F V' n d v->Al K J F' G' n d v:=by
 induction n with
 |zero=>exactλh=>Dt.mono sF h
 |succ n ih=>
  intro d v h;rcases h with h|h
  ·exact .inl<|Dt.mono sF h
  ·cases h with
   |lst h p=>exact .inr<|.lst (sG _ _ h)<|p.mono λ_ _ q=>ih q
   |tup h p=>exact .inr<|.tup (sF _ _ h)<|p.mono λ_ _ q=>ih q
   |dK h l p=>exact .inr<|.dK (sG _ _ h) l<|p.mono λ_ _ q=>ih q
   |dT h l p=>exact .inr<|.dT (sG.rd h) l<|p.mono λ_ _ q=>ih q
   |obj h l p=>exact .inr<|.obj (sG _ _ h) l<|p.mono λ_ _ q=>ih q
theorem Al.of:∀{n:Nat} {d:D} {v:V},Dt K J F d v->Al K J F V' n d v
 |0,_,_,h=>h
 |_+1,_,_,h=>.inl h
theorem Al.up:∀{m:Nat} {d:D} {v:V},Al K J F V' n d v->n<=m->Al K J F V' m d v:=by
 induction n with
 |zero=>exactλh _=>Al.of h
 |succ n ih=>
  intro m d v h l;cases m with
  |zero=>exact absurd l (by lia)
  |succ m=>
   rcases h with h|h
   ·exact .inl h
   ·cases h with
    |lst h p=>exact .inr (.lst h<|p.mono λ_ _ q=>ih q (by lia))
    |tup h p=>exact .inr (.tup h<|p.mono λ_ _ q=>ih q (by lia))
    |dK h e p=>exact .inr (.dK h e<|p.mono λ_ _ q=>ih q (by lia))
    |dT h e p=>exact .inr (.dT h e<|p.mono λ_ _ q=>ih q (by lia))
    |obj h e p=>exact .inr (.obj h e<|p.mono λ_ _ q=>ih q (by lia))
theorem Dt.scal {v:V}(h:Dt K J F d v)(hs:d.sc=Â):Dt K J F' d v:=by
 cases h with
 |non=>exact .non
 |bl b=>exact .bl b
 |int i=>exact .int i
 |str x=>exact .str x
 |lst _ _=>cases hs
 |tup _ _=>cases hs
 |dK _ _ _=>cases hs
 |dT _ _ _=>cases hs
 |obj _ _ _=>cases hs
 |exc0 _=>cases hs
 |exc _ _ _ _=>cases hs
 |kt _ _=>cases hs
 |cel=>cases hs
theorem Al.scal {v:V}(h:Al K J F V' n d v)(hs:d.sc=Â):Dt K J F' d v:=by
 cases n with
 |zero=>exact Dt.scal h hs
 |succ n=>
  rcases h with h|h
  ·exact h.scal hs
  ·cases h<;>cases hs
theorem Al.int {i:Int}{v:V}(h:Al K J F V' n (.int i) v):v=.int i:=by have q:=Al.scal (F':=F) h rfl;cases q;rfl
theorem Al.bl {b:Bool}{v:V}(h:Al K J F V' n (.bl b) v):v=.bl b:=by have q:=Al.scal (F':=F) h rfl;cases q;rfl
theorem Al.str {v:V}(h:Al K J F V' n (.str x) v):v=.str x:=by have q:=Al.scal (F':=F) h rfl;cases q;rfl
theorem Al.non {v:V}(h:Al K J F V' n .non v):v=.non:=by have q:=Al.scal (F':=F) h rfl;cases q;rfl
theorem Al.lst {v:V}(h:Al K J F V' n (.lst O) v)(s:ej F V'):∃a vs,v=.ref a/\iE K V' a vs/\Pr (Al K J F V'<|n-1) O vs:=by
 cases n with
 |zero=>
  have h:Dt K J F (.lst O) v:=h;cases h with
  |lst q t=>exact⟨_,_,rfl,s.seq q,t.pr⟩
 |succ n=>
  rcases h with h|h
  ·cases h with
   |lst q t=>exact⟨_,_,rfl,s.seq q,t.pr.mono λ_ _=>Al.of⟩
  ·cases h with
   |lst q t=>exact⟨_,_,rfl,iE.of q,t⟩
theorem Al.tup {v:V}(h:Al K J F V' n (.tup O) v)(s:ej F V'):∃a vs,v=.ref a/\V' a=U (.tup vs)/\Pr (Al K J F V'<|n-1) O vs:=by
 cases n with
 |zero=>
  have h:Dt K J F (.tup O) v:=h;cases h with
  |tup q t=>exact⟨_,_,rfl,s _ _ q,t.pr⟩
 |succ n=>
  rcases h with h|h
  ·cases h with
   |tup q t=>exact⟨_,_,rfl,s _ _ q,t.pr.mono λ_ _=>Al.of⟩
  ·cases h with
   |tup q t=>exact⟨_,_,rfl,s _ _ q,t⟩
theorem Al.dK {v:V}(h:Al K J F V' n (.dK ks O) v)(s:ej F V'):∃a vs,v=.ref a/\V' a=U (.dK<|ks.zip vs)/\ks.length=vs.length/\Pr (Al K J F V'<|n-1) O vs:=by
 cases n with
 |zero=>
  have h:Dt K J F (.dK ks O) v:=h;cases h with
  |dK q l t=>exact⟨_,_,rfl,s _ _ q,l,t.pr⟩
 |succ n=>
  rcases h with h|h
  ·cases h with
   |dK q l t=>exact⟨_,_,rfl,s _ _ q,l,t.pr.mono λ_ _=>Al.of⟩
  ·cases h with
   |dK q l t=>exact⟨_,_,rfl,q,l,t⟩
theorem Al.dT {ks:List (List kL)}{v:V}(h:Al K J F V' n (.dT ks O) v)(s:ej F V'):∃a vs,v=.ref a/\Rd V' a (.dT<|ks.zip vs)/\ks.length=vs.length/\Pr (Al K J F V'<|n-1) O vs:=by
 cases n with
 |zero=>
  have h:Dt K J F (.dT ks O) v:=h;cases h with
  |dT q l t=>exact⟨_,_,rfl,s.rd q,l,t.pr⟩
 |succ n=>
  rcases h with h|h
  ·cases h with
   |dT q l t=>exact⟨_,_,rfl,s.rd q,l,t.pr.mono λ_ _=>Al.of⟩
  ·cases h with
   |dT q l t=>exact⟨_,_,rfl,q,l,t⟩
theorem Al.obj {c:Nat}{ns:List Str}{v:V}(h:Al K J F V' n (.obj c ns O) v)(s:ej F V'):∃a dx vs,v=.ref a/\V' a=U (.ins (J c) dx<|ns.zip vs)/\ns.length=vs.length/\Pr (Al K J F V'<|n-1) O vs:=by
 cases n with
 |zero=>
  have h:Dt K J F (.obj c ns O) v:=h;cases h with
  |obj q l t=>exact⟨_,_,_,rfl,s _ _ q,l,t.pr⟩
 |succ n=>
  rcases h with h|h
  ·cases h with
   |obj q l t=>exact⟨_,_,_,rfl,s _ _ q,l,t.pr.mono λ_ _=>Al.of⟩
  ·cases h with
   |obj q l t=>exact⟨_,_,_,rfl,q,l,t⟩
theorem Al.kt {v:V}(h:Al K J F V' n (.kt O) v):∃a vs,v=.ref a/\FJ K a vs/\Pr (Dt K J F) O vs:=by
 have h:Dt K J F (.kt O) v:=by
  cases n with
  |zero=>exact h
  |succ n=>
   rcases h with h|h
   ·exact h
   ·cases h
 cases h with
 |kt q t=>exact⟨_,_,rfl,q,t.pr⟩
theorem iH.mono {R R':D->V->List cN->Prop}{vs:List V}(h:iH R O vs fp):(∀d v f,(∀a∈f,a∈fp)->R d v f->R' d v f)->iH R' O vs fp:=by
 induction h with
 |nil=>exactλ_=>.nil
 |cons h t ih=>exactλq=>.cons (q _ _ _ (λa z=>cV _ z) h)<|ih λd v f i r=>q d v f (λa z=>cR _<|i a z) r
theorem iH.pr {R:D->V->List cN->Prop}{R':D->V->Prop}{vs:List V}(h:iH R O vs fp):(∀d v f,(∀a∈f,a∈fp)->R d v f->R' d v)->Pr R' O vs:=by
 induction h with
 |nil=>exactλ_=>.nil
 |cons h t ih=>exactλq=>.cons (q _ _ _ (λa z=>cV _ z) h)<|ih λd v f i r=>q d v f (λa z=>cR _<|i a z) r
theorem iH.ofPr {R:D->V->List cN->Prop}{vs:List V}(h:Pr (λd v=>R d v []) O vs):iH R O vs []:=by
 induction h with
 |nil=>exact .nil
 |cons h t ih=>exact iH.cons (f:=[]) (g:=[]) h ih
theorem iH.append {R:D->V->List cN->Prop}{es:List D}{vs:List V}{f g:List cN}(h:iH R O vs f)(s:iH R es us g):iH R (O++es) (vs++us) (f++g):=by
 induction h with
 |nil=>exact s
 |cons h t ih=>rw[et];exact .cons h ih
theorem iH.length {R:D->V->List cN->Prop}{vs:List V}(h:iH R O vs fp):O.length=vs.length:=by
 induction h with
 |nil=>rfl
 |cons _ t ih=>simp[ih]
theorem kY.nil {ns:List Str}{vs:List V}(h:∀es,(ns.zip O).lookup ("puts":Str)≠U (D.cel es)):kY K J F H ns O vs []:=by
 unfold kY;split
 ·rename_i e;exact absurd e<|h _
 ·rfl
theorem kY.frame {ns:List Str}{vs:List V}(h:kY K J F H ns O vs fb)(sF:ej F F')(k:∀a∈fb,H' a=H a/\F' a=G):kY K J F' H' ns O vs fb:=by
 unfold kY at h ⊢;split
 ·rename_i es e;rw[e]at h;obtain⟨b,us,h1,rfl,h3,h4,h5⟩:=h;obtain⟨k1,k2⟩:=k b cK;exact⟨b,us,h1,rfl,k2,k1.trans h4,h5.mono λ_ _ q=>q.mono sF⟩
 ·rename_i e;split at h
  ·rename_i es e';exact absurd e'<|e es
  ·exact h
theorem kY.cells {ns:List Str}{vs:List V}(h:kY K J F H ns O vs fb):∀a∈fb,F a=G/\∃o,H a=U o/\oR o:=by
 unfold kY at h;intro a z;split at h
 ·obtain⟨b,us,h1,rfl,h3,h4,h5⟩:=h;rw[ef]at z;subst z;exact⟨h3,_,h4,nofun⟩
 ·rw[h]at z;cases z
theorem Ow.frame (sF:ej F F'):∀{d:D} {v:V} {fp:List cN},Ow K J F H n d v fp->(∀a∈fp,H' a=H a/\F' a=G)->Ow K J F' H' n d v fp:=by
 induction n with
 |zero=>exactλh _=>⟨h.1.mono sF,h.2⟩
 |succ n ih=>
  intro d v fp h k;rcases h with h|h
  ·exact .inl ⟨h.1,h.2.1.mono sF,h.2.2⟩
  ·cases h with
   |lst hn h p=>exact .inr<|.lst (k _ cK).2 ((k _ cK).1.trans h)<|p.mono λ_ _ _ i q=>ih q λa z=>k a<|cQ _<|i a z
   |tup h p=>exact .inr<|.tup (sF _ _ h)<|p.mono λ_ _ _ i q=>ih q λa z=>k a<|i a z
   |dK hn h l p=>exact .inr<|.dK (k _ cK).2 ((k _ cK).1.trans h) l<|p.mono λ_ _ _ i q=>ih q λa z=>k a<|cQ _<|i a z
   |dT hn h l p=>exact .inr<|.dT (k _ cK).2 ((k _ cK).1.trans h) l<|p.mono λ_ _ _ i q=>ih q λa z=>k a<|cQ _<|i a z
   |obj hn h l c p=>exact .inr<|.obj (k _ cK).2 ((k _ cK).1.trans h) l (c.frame sF λa z=>k a<|cQ _<|cV _ z)<|p.mono λ_ _ _ i q=>ih q λa z=>k a<|cQ _<|cR _<|i a z
theorem iH.cells0 {R:D->V->List cN->Prop}(k:∀d v f,R d v f->∀a∈f,F a=G/\∃o,H a=U o/\oR o){vs:List V}(h:iH R O vs fp):∀a∈fp,F a=G/\∃o,H a=U o/\oR o:=by
 induction h with
 |nil=>exactλa z=>by cases z
 |cons h t ih=>exactλa z=>(dc.mp z).elim (λz=>k _ _ _ h a z)<|ih a
theorem Ow.cells:∀{d:D} {v:V} {fp:List cN},Ow K J F H n d v fp->∀a∈fp,F a=G/\∃o,H a=U o/\oR o:=by
 induction n with
 |zero=>exactλh a z=>by rw[h.2]at z;cases z
 |succ n ih=>
  intro d v fp h a z;rcases h with h|h
  ·rw[h.2.2]at z;cases z
  ·cases h with
   |lst hn h p=>exact(cP.mp z).elim (λe=>by rw[e];exact⟨hn,_,h,nofun⟩)<|iH.cells0 (λd v f q=>ih q) p a
   |tup h p=>exact iH.cells0 (λd v f q=>ih q) p a z
   |dK hn h l p=>exact(cP.mp z).elim (λe=>by rw[e];exact⟨hn,_,h,nofun⟩)<|iH.cells0 (λd v f q=>ih q) p a
   |dT hn h l p=>exact(cP.mp z).elim (λe=>by rw[e];exact⟨hn,_,h,nofun⟩)<|iH.cells0 (λd v f q=>ih q) p a
   |obj hn h l c p=>exact(cP.mp z).elim (λe=>by rw[e];exact⟨hn,_,h,nofun⟩) λz=>(dc.mp z).elim (c.cells a)<|iH.cells0 (λd v f q=>ih q) p a
theorem Ow.ext {v:V}(h:Ow K J F H n d v fp)(e:kR F H F' H'):Ow K J F' H' n d v fp :=
 h.frame e.ff λa z=>by obtain⟨hn,o,ho,nt⟩:=h.cells a z;exact⟨(e.hh _ _ ho).trans ho.symm,e.nf a o ho nt hn⟩
theorem Ow.al (s:ej F H):∀{d:D} {v:V} {fp:List cN},Ow K J F H n d v fp->Al K J F H n d v:=by
 induction n with
 |zero=>exactλh=>h.1
 |succ n ih=>
  intro d v fp h;rcases h with h|h
  ·exact .inl h.2.1
  ·cases h with
   |lst hn h p=>exact .inr<|.lst h<|p.pr λ_ _ _ _ q=>ih q
   |tup h p=>exact .inr<|.tup h<|p.pr λ_ _ _ _ q=>ih q
   |dK hn h l p=>exact .inr<|.dK h l<|p.pr λ_ _ _ _ q=>ih q
   |dT hn h l p=>exact .inr<|.dT (.inl h) l<|p.pr λ_ _ _ _ q=>ih q
   |obj hn h l c p=>exact .inr<|.obj h l<|p.pr λ_ _ _ _ q=>ih q
theorem Ow.dt (sF:ej F F'):∀{d:D} {v:V} {fp:List cN},Ow K J F H n d v fp->(∀a∈fp,F' a=H a)->Dt K J F' d v:=by
 induction n with
 |zero=>exactλh _=>h.1.mono sF
 |succ n ih=>
  intro d v fp h k;rcases h with h|h
  ·exact h.2.1.mono sF
  ·cases h with
   |lst hn h p=>exact .lst (iE.of<|(k _ cK).trans h)<|.of<|p.pr λ_ _ _ i q=>ih q λa z=>k a<|cQ _<|i a z
   |tup h p=>exact .tup (sF _ _ h)<|.of<|p.pr λ_ _ _ i q=>ih q λa z=>k a<|i a z
   |dK hn h l p=>exact .dK ((k _ cK).trans h) l<|.of<|p.pr λ_ _ _ i q=>ih q λa z=>k a<|cQ _<|i a z
   |dT hn h l p=>exact .dT (.inl<|(k _ cK).trans h) l<|.of<|p.pr λ_ _ _ i q=>ih q λa z=>k a<|cQ _<|i a z
   |obj hn h l c p=>exact .obj ((k _ cK).trans h) l<|.of<|p.pr λ_ _ _ i q=>ih q λa z=>k a<|cQ _<|cR _<|i a z
def nk (F H:Hp)(fp:List cN):Hp:=λa=>if a∈fp then H a else F a
theorem wf (s:ej F H)(hf:∀a∈fp,F a=G):ej F (nk F H fp)/\ej (nk F H fp) H/\∀a∈fp,nk F H fp a=H a:=by
 refine⟨λa o h=>?_,λa o h=>?_,λa z=>if_pos z⟩
 ·have:¬a∈fp:=λz=>by rw[hf a z]at h;cases h
  unfold nk;rw[if_neg this];exact h
 ·unfold nk at h;by_cases z:a∈fp
  ·rw[if_pos z]at h;exact h
  ·rw[if_neg z]at h;exact s _ _ h
theorem Ow.freeze {v:V}{H0:Hp}(h:Ow K J F H n d v fp)(e:kR F0 H0 F H)(hf:∀a∈fp,H0 a=G):∃F',kR F0 H0 F' H/\Dt K J F' d v:=by
 obtain⟨w1,w2,w3⟩:=wf (fp:=fp) e.fh<|λa z=>(h.cells a z).1;refine⟨nk F H fp,⟨e.ff.trans w1,e.hh,w2,λa o ho nt hn=>?_⟩,h.dt w1 w3⟩;have:¬a∈fp:=λz=>by rw[hf a z]at ho;cases ho
 unfold nk;rw[if_neg this];exact e.nf a o ho nt hn
theorem Ow.zero {v:V}(h:Dt K J F d v):Ow K J F H 0 d v []:=⟨h,rfl⟩
theorem Ow.scal {v:V}(h:Dt K J F d v)(hs:d.sc=Â):Ow K J F H n d v []:=by
 cases n with
 |zero=>exact⟨h,rfl⟩
 |succ n=>exact .inl ⟨hs,h,rfl⟩
noncomputable abbrev Env:=List<|Option D
inductive Mo where
 |al (n:Nat)|ow (n:Nat)|px (v:V)|so (x:cN)
noncomputable def Mo.lv:Mo->Nat
 |.al n=>n
 |.ow n=>n
 |.px _=>1
 |.so _=>1
section
variable (K:cL)(J:Nat->cN)
class inductive SL (F B H:Hp):List Mo->Env->St->List cN->Prop
 |nil:SL F B H [] [] [] []
 |no {m:Mo} {o:Option V} {S:List Mo} {Y:Env} {Z:St} {fp:List cN}:SL F B H S Y Z fp->SL F B H (m::S) (G::Y) (o::Z) fp
 |al {n:Nat} {d:D} {v:V} {S:List Mo} {Y:Env} {Z:St} {fp:List cN}:Al K J F B n d v->SL F B H S Y Z fp->SL F B H (.al n::S) (U d::Y) (U v::Z) fp
 |px {d:D} {v:V} {S:List Mo} {Y:Env} {Z:St} {fp:List cN}:Al K J F B 1 d v->SL F B H S Y Z fp->SL F B H (.px v::S) (U d::Y) (U v::Z) fp
 |so {d:D} {x:cN} {S:List Mo} {Y:Env} {Z:St} {f fp:List cN}:Ow K J F H 1 d (.ref x) f->SL F B H S Y Z fp->SL F B H (.so x::S) (U d::Y) (U (.ref x)::Z) (f++fp)
 |ow {n:Nat} {d:D} {v:V} {S:List Mo} {Y:Env} {Z:St} {f fp:List cN}:Ow K J F H n d v f->SL F B H S Y Z fp->SL F B H (.ow n::S) (U d::Y) (U v::Z) (f++fp)
structure RS (F0 B:Hp)(S:List Mo)(F H:Hp)(Y:Env)(Z:St):Prop where
 f0:ej F0 F
 bh:ej B H
 fh:ej F H
 nf:∀a o,B a=U o->oR o->F0 a=G->F a=G
 sl:∃fp,SL K J F B H S Y Z fp/\fp.Nodup/\∀a∈fp,B a=G
end
variable {k:Nat}{S:List Mo}{x0:cN}{Y:Env}{Z:St}
theorem SL.cells (h:SL K J F B H S Y Z fp):∀a∈fp,F a=G/\∃o,H a=U o/\oR o:=by
 induction h with
 |nil=>intro a z;cases z
 |no t ih=>exact ih
 |al _ t ih=>exact ih
 |px _ t ih=>exact ih
 |so h t ih=>exactλa z=>(dc.mp z).elim (h.cells a)<|ih a
 |ow h t ih=>exactλa z=>(dc.mp z).elim (h.cells a)<|ih a
theorem SL.frame (sF:ej F F')(h:SL K J F B H S Y Z fp):(∀a∈fp,H' a=H a/\F' a=G)->SL K J F' B H' S Y Z fp:=by
 induction h with
 |nil=>exactλ_=>.nil
 |no t ih=>exactλk=>.no<|ih k
 |al h t ih=>exactλk=>.al (h.mono sF<|.refl _)<|ih k
 |px h t ih=>exactλk=>.px (h.mono sF<|.refl _)<|ih k
 |so h t ih=>exactλk=>.so (h.frame sF λa z=>k a<|cV _ z)<|ih λa z=>k a<|cR _ z
 |ow h t ih=>exactλk=>.ow (h.frame sF λa z=>k a<|cV _ z)<|ih λa z=>k a<|cR _ z
theorem RS.ext (r:RS K J F0 B S F H Y Z)(e:kR F H F' H'):RS K J F0 B S F' H' Y Z:=by obtain⟨fp,s,nd,hb⟩:=r.sl;refine⟨r.f0.trans e.ff,r.bh.trans e.hh,e.fh,λa o h t n=>e.nf a o (r.bh _ _ h) t<|r.nf a o h t n,fp,s.frame e.ff λa z=>?_,nd,hb⟩;obtain⟨hn,o,ho,nt⟩:=s.cells a z;exact⟨(e.hh _ _ ho).trans ho.symm,e.nf a o ho nt hn⟩
theorem SL.get {m:Mo}(h:SL K J F B H S Y Z fp)(s:ej F H)(s':ej B H):S[i]?=U m->Y[i]?=U (U d)->∃v,Z[i]?=U (U v)/\Al K J F H m.lv d v:=by
 induction h generalizing i with
 |nil=>intro e;simp at e
 |no t ih=>
  intro e e';cases i with
  |zero=>simp at e'
  |succ i=>simpa using ih (by simpa using e) (by simpa using e')
 |al h t ih=>
  intro e e';cases i with
  |zero=>simp at e e';subst e;subst e';exact⟨_,rfl,h.mono (.refl _) s'⟩
  |succ i=>simpa using ih (by simpa using e) (by simpa using e')
 |px h t ih=>
  intro e e';cases i with
  |zero=>simp at e e';subst e;subst e';exact⟨_,rfl,h.mono (.refl _) s'⟩
  |succ i=>simpa using ih (by simpa using e) (by simpa using e')
 |so h t ih=>
  intro e e';cases i with
  |zero=>simp at e e';subst e;subst e';exact⟨_,rfl,h.al s⟩
  |succ i=>simpa using ih (by simpa using e) (by simpa using e')
 |ow h t ih=>
  intro e e';cases i with
  |zero=>simp at e e';subst e;subst e';exact⟨_,rfl,h.al s⟩
  |succ i=>simpa using ih (by simpa using e) (by simpa using e')
theorem RS.get (r:RS K J F0 B S F H Y Z){m:Mo}(hm:S[i]?=U m)(e:Y[i]?=U (U d)):∃v,Z[i]?=U (U v)/\Al K J F H m.lv d v:=by obtain⟨fp,s,_,_⟩:=r.sl;exact s.get r.fh r.bh hm e
theorem SL.put (h0:SL K J F B H S Y Z fp):S[i]?=U (.ow k) ->
  ∃f1 fr:List cN,(∀a∈f1,a∈fp)/\(∀a∈fr,a∈fp)/\(fp.Nodup->f1.Nodup/\fr.Nodup/\∀a∈f1,a∉fr)/\(∀d,Y[i]?=U (U d)->∃v,Z[i]?=U (U v)/\Ow K J F H k d v f1) /\
   ∀(F' H':Hp) (d':D) (v':V) (f':List cN),ej F F'->(∀a∈fr,H' a=H a/\F' a=G)->Ow K J F' H' k d' v' f' ->
    ∃kP,SL K J F' B H' S (Y.set i<|U d') (Z.set i<|U v') kP/\(∀a∈kP,a∈f'\/a∈fr)/\(f'.Nodup->fr.Nodup->(∀a∈f',a∉fr)->kP.Nodup):=by
 induction h0 generalizing i with
 |nil=>intro e;simp at e
 |@no m0 o0 S Y Z fp t ih=>
  intro e;cases i with
  |zero=>simp at e;subst e;refine⟨[],fp,λa z=>(by cases z),λa z=>z,λn=>⟨dZ,n,λa z=>(by cases z)⟩,λd q=>(by simp at q),λF' H' d' v' f' s kf h=>⟨f'++fp,.ow h<|t.frame s kf,λa z=>dc.mp z,λn1 n2 dj=>?_⟩⟩;exact c8.mpr ⟨n1,n2,λa z b zb e=>dj a z<|e▸zb⟩
  |succ i=>obtain⟨f1,fr,h1,h2,h3,h4,h5⟩:=ih (i:=i) (by simpa using e);refine⟨f1,fr,h1,h2,h3,λd q=>by simpa using h4 d (by simpa using q),λF' H' d' v' f' s kf h=>?_⟩;obtain⟨kP,q1,q2,q3⟩:=h5 F' H' d' v' f' s kf h;exact⟨kP,.no q1,q2,q3⟩
 |@al n0 d0 v0 S Y Z fp h t ih=>
  intro e;cases i with
  |zero=>simp at e
  |succ i=>obtain⟨f1,fr,h1,h2,h3,h4,h5⟩:=ih (i:=i) (by simpa using e);refine⟨f1,fr,h1,h2,h3,λd q=>by simpa using h4 d (by simpa using q),λF' H' d' v' f' s kf h'=>?_⟩;obtain⟨kP,q1,q2,q3⟩:=h5 F' H' d' v' f' s kf h';exact⟨kP,.al (h.mono s<|.refl _) q1,q2,q3⟩
 |@px d0 v0 S Y Z fp h t ih=>
  intro e;cases i with
  |zero=>simp at e
  |succ i=>obtain⟨f1,fr,h1,h2,h3,h4,h5⟩:=ih (i:=i) (by simpa using e);refine⟨f1,fr,h1,h2,h3,λd q=>by simpa using h4 d (by simpa using q),λF' H' d' v' f' s kf h'=>?_⟩;obtain⟨kP,q1,q2,q3⟩:=h5 F' H' d' v' f' s kf h';exact⟨kP,.px (h.mono s<|.refl _) q1,q2,q3⟩
 |@so d0 x S Y Z f fp h t ih=>
  intro e;cases i with
  |zero=>simp at e
  |succ i=>
   obtain⟨f1,fr,h1,h2,h3,h4,h5⟩:=ih (i:=i) (by simpa using e);refine⟨f1,f++fr,λa z=>cR _<|h1 a z,λa z=>(dc.mp z).elim (λz=>cV _ z) λz=>cR _ (h2 a z),λn=>?_,λd q=>by simpa using h4 d (by simpa using q),λF' H' d' v' f' s kf h'=>?_⟩
   ·obtain⟨n1,n2,n3⟩:=c8.mp n;obtain⟨m1,m2,m3⟩:=h3 n2;refine⟨m1,c8.mpr ⟨n1,m2,λa z b zb=>n3 a z b<|h2 b zb⟩,λa z zb=>?_⟩;rcases dc.mp zb with zb|zb
    ·exact n3 a zb a (h1 a z) rfl
    ·exact m3 a z zb
   ·obtain⟨kP,q1,q2,q3⟩:=h5 F' H' d' v' f' s (λa z=>kf a<|cR _ z) h';refine⟨f++kP,.so (h.frame s λa z=>kf a<|cV _ z) q1,λa z=>?_,λn1 n2 dj=>?_⟩
    ·rcases dc.mp z with z|z
     ·exact .inr<|cV _ z
     ·exact(q2 a z).imp id λz=>cR _ z
    ·obtain⟨m1,m2,m3⟩:=c8.mp n2;refine c8.mpr ⟨m1,q3 n1 m2 λa z zb=>dj a z (cR _ zb),λa z b zb e=>?_⟩;subst e;rcases q2 a zb with zb|zb
     ·exact dj a zb<|cV _ z
     ·exact m3 a z a zb rfl
 |@ow n0 d0 v0 S Y Z f fp h t ih=>
  intro e;cases i with
  |zero=>
   simp at e;subst e;refine⟨f,fp,λa z=>cV _ z,λa z=>cR _ z,λn=>?_,λd q=>?_,λF' H' d' v' f' s kf h=>⟨f'++fp,.ow h<|t.frame s kf,λa z=>dc.mp z,λn1 n2 dj=>?_⟩⟩
   ·obtain⟨n1,n2,n3⟩:=c8.mp n;exact⟨n1,n2,λa z zb=>n3 a z a zb rfl⟩
   ·simp at q;subst q;exact⟨_,rfl,h⟩
   ·exact c8.mpr ⟨n1,n2,λa z b zb e=>dj a z<|e▸zb⟩
  |succ i=>
   obtain⟨f1,fr,h1,h2,h3,h4,h5⟩:=ih (i:=i) (by simpa using e);refine⟨f1,f++fr,λa z=>cR _<|h1 a z,λa z=>(dc.mp z).elim (λz=>cV _ z) λz=>cR _ (h2 a z),λn=>?_,λd q=>by simpa using h4 d (by simpa using q),λF' H' d' v' f' s kf h'=>?_⟩
   ·obtain⟨n1,n2,n3⟩:=c8.mp n;obtain⟨m1,m2,m3⟩:=h3 n2;refine⟨m1,c8.mpr ⟨n1,m2,λa z b zb=>n3 a z b<|h2 b zb⟩,λa z zb=>?_⟩;rcases dc.mp zb with zb|zb
    ·exact n3 a zb a (h1 a z) rfl
    ·exact m3 a z zb
   ·obtain⟨kP,q1,q2,q3⟩:=h5 F' H' d' v' f' s (λa z=>kf a<|cR _ z) h';refine⟨f++kP,.ow (h.frame s λa z=>kf a<|cV _ z) q1,λa z=>?_,λn1 n2 dj=>?_⟩
    ·rcases dc.mp z with z|z
     ·exact .inr<|cV _ z
     ·exact(q2 a z).imp id λz=>cR _ z
    ·obtain⟨m1,m2,m3⟩:=c8.mp n2;refine c8.mpr ⟨m1,q3 n1 m2 λa z zb=>dj a z (cR _ zb),λa z b zb e=>?_⟩;subst e;rcases q2 a zb with zb|zb
     ·exact dj a zb<|cV _ z
     ·exact m3 a z a zb rfl
theorem SL.putS {dd:D}(h0:SL K J F B H S Y Z fp):S[i]?=U (.so x0)->Y[i]?=U (U dd) ->
  ∃f1 fr:List cN,(∀a∈f1,a∈fp)/\(∀a∈fr,a∈fp)/\(fp.Nodup->f1.Nodup/\fr.Nodup/\∀a∈f1,a∉fr)/\(Z[i]?=U (U<|.ref x0)/\Ow K J F H 1 dd (.ref x0) f1) /\
   ∀(F' H':Hp) (d':D) (f':List cN),ej F F'->(∀a∈fr,H' a=H a/\F' a=G)->Ow K J F' H' 1 d' (.ref x0) f' ->
    ∃kP,SL K J F' B H' S (Y.set i<|U d') Z kP/\(∀a∈kP,a∈f'\/a∈fr)/\(f'.Nodup->fr.Nodup->(∀a∈f',a∉fr)->kP.Nodup):=by
 induction h0 generalizing i with
 |nil=>intro e L;simp at e
 |@no m0 o0 S Y Z fp t ih=>
  intro e L;cases i with
  |zero=>simp at L
  |succ i=>obtain⟨f1,fr,h1,h2,h3,h4,h5⟩:=ih (i:=i) (by simpa using e) (by simpa using L);refine⟨f1,fr,h1,h2,h3,by simpa using h4,λF' H' d' f' s kf h=>?_⟩;obtain⟨kP,q1,q2,q3⟩:=h5 F' H' d' f' s kf h;exact⟨kP,.no q1,q2,q3⟩
 |@al n0 d0 v0 S Y Z fp h t ih=>
  intro e L;cases i with
  |zero=>simp at e
  |succ i=>obtain⟨f1,fr,h1,h2,h3,h4,h5⟩:=ih (i:=i) (by simpa using e) (by simpa using L);refine⟨f1,fr,h1,h2,h3,by simpa using h4,λF' H' d' f' s kf h'=>?_⟩;obtain⟨kP,q1,q2,q3⟩:=h5 F' H' d' f' s kf h';exact⟨kP,.al (h.mono s<|.refl _) q1,q2,q3⟩
 |@px d0 v0 S Y Z fp h t ih=>
  intro e L;cases i with
  |zero=>simp at e
  |succ i=>obtain⟨f1,fr,h1,h2,h3,h4,h5⟩:=ih (i:=i) (by simpa using e) (by simpa using L);refine⟨f1,fr,h1,h2,h3,by simpa using h4,λF' H' d' f' s kf h'=>?_⟩;obtain⟨kP,q1,q2,q3⟩:=h5 F' H' d' f' s kf h';exact⟨kP,.px (h.mono s<|.refl _) q1,q2,q3⟩
 |@so d0 x S Y Z f fp h t ih=>
  intro e L;cases i with
  |zero=>
   simp at e L;subst e;subst L;refine⟨f,fp,λa z=>cV _ z,λa z=>cR _ z,λn=>?_,⟨rfl,h⟩,λF' H' d' f' s kf h=>⟨f'++fp,.so h<|t.frame s kf,λa z=>dc.mp z,λn1 n2 dj=>?_⟩⟩
   ·obtain⟨n1,n2,n3⟩:=c8.mp n;exact⟨n1,n2,λa z zb=>n3 a z a zb rfl⟩
   ·exact c8.mpr ⟨n1,n2,λa z b zb e=>dj a z<|e▸zb⟩
  |succ i=>
   obtain⟨f1,fr,h1,h2,h3,h4,h5⟩:=ih (i:=i) (by simpa using e) (by simpa using L);refine⟨f1,f++fr,λa z=>cR _<|h1 a z,λa z=>(dc.mp z).elim (λz=>cV _ z) λz=>cR _ (h2 a z),λn=>?_,by simpa using h4,λF' H' d' f' s kf h'=>?_⟩
   ·obtain⟨n1,n2,n3⟩:=c8.mp n;obtain⟨m1,m2,m3⟩:=h3 n2;refine⟨m1,c8.mpr ⟨n1,m2,λa z b zb=>n3 a z b<|h2 b zb⟩,λa z zb=>?_⟩;rcases dc.mp zb with zb|zb
    ·exact n3 a zb a (h1 a z) rfl
    ·exact m3 a z zb
   ·obtain⟨kP,q1,q2,q3⟩:=h5 F' H' d' f' s (λa z=>kf a<|cR _ z) h';refine⟨f++kP,.so (h.frame s λa z=>kf a<|cV _ z) q1,λa z=>?_,λn1 n2 dj=>?_⟩
    ·rcases dc.mp z with z|z
     ·exact .inr<|cV _ z
     ·exact(q2 a z).imp id λz=>cR _ z
    ·obtain⟨m1,m2,m3⟩:=c8.mp n2;refine c8.mpr ⟨m1,q3 n1 m2 λa z zb=>dj a z (cR _ zb),λa z b zb e=>?_⟩;subst e;rcases q2 a zb with zb|zb
     ·exact dj a zb<|cV _ z
     ·exact m3 a z a zb rfl
 |@ow n0 d0 v0 S Y Z f fp h t ih=>
  intro e L;cases i with
  |zero=>simp at e
  |succ i=>
   obtain⟨f1,fr,h1,h2,h3,h4,h5⟩:=ih (i:=i) (by simpa using e) (by simpa using L);refine⟨f1,f++fr,λa z=>cR _<|h1 a z,λa z=>(dc.mp z).elim (λz=>cV _ z) λz=>cR _ (h2 a z),λn=>?_,by simpa using h4,λF' H' d' f' s kf h'=>?_⟩
   ·obtain⟨n1,n2,n3⟩:=c8.mp n;obtain⟨m1,m2,m3⟩:=h3 n2;refine⟨m1,c8.mpr ⟨n1,m2,λa z b zb=>n3 a z b<|h2 b zb⟩,λa z zb=>?_⟩;rcases dc.mp zb with zb|zb
    ·exact n3 a zb a (h1 a z) rfl
    ·exact m3 a z zb
   ·obtain⟨kP,q1,q2,q3⟩:=h5 F' H' d' f' s (λa z=>kf a<|cR _ z) h';refine⟨f++kP,.ow (h.frame s λa z=>kf a<|cV _ z) q1,λa z=>?_,λn1 n2 dj=>?_⟩
    ·rcases dc.mp z with z|z
     ·exact .inr<|cV _ z
     ·exact(q2 a z).imp id λz=>cR _ z
    ·obtain⟨m1,m2,m3⟩:=c8.mp n2;refine c8.mpr ⟨m1,q3 n1 m2 λa z zb=>dj a z (cR _ zb),λa z b zb e=>?_⟩;subst e;rcases q2 a zb with zb|zb
     ·exact dj a zb<|cV _ z
     ·exact m3 a z a zb rfl
theorem RS.pin (rs:RS K J F0 B S F H Y Z)(hm:S[i]?=U (.so x0))(hd:Y[i]?=U (U d)):∃f,Z[i]?=U (U<|.ref x0)/\Ow K J F H 1 d (.ref x0) f/\f.Nodup/\(∀a∈f,B a=G) /\
  ∀(F' H':Hp) (d':D) (f':List cN),ej F F'->(∀a o,H a=U o->a∉f->H' a=U o)->ej F' H'->(∀a o,H a=U o->a∉f->oR o->F a=G->F' a=G)->(∀a o,B a=U o->oR o->F0 a=G->F' a=G)->Ow K J F' H' 1 d' (.ref x0) f'->f'.Nodup->(∀a∈f',a∈f\/H a=G)->RS K J F0 B S F' H' (Y.set i<|U d') Z:=by
 obtain⟨fp,sl,nd,hb⟩:=rs.sl;obtain⟨f,fr,g1,g2,g3,⟨g4,g5⟩,g6⟩:=sl.putS hm hd;obtain⟨n1,n2,dj⟩:=g3 nd;have fB:∀a∈f,B a=G:=λa z=>hb a<|g1 a z;refine⟨f,g4,g5,n1,fB,λF' H' d' f' s1 kH s3 kF nf o' BE Ct=>?_⟩;have BY:∀a∈f',a∉fr:=λa z zb=>(Ct a z).elim (λz=>dj a z zb) λe=>by obtain⟨_,o,ho,_⟩:=sl.cells a<|g2 a zb;rw[e]at ho;cases ho
 obtain⟨kP,q1,q2,q3⟩:=g6 F' H' d' f' s1 (λa z=>by obtain⟨hn,o,ho,nt⟩:=sl.cells a<|g2 a z;have na:a∉f:=λzf=>dj a zf z;exact⟨(kH a o ho na).trans ho.symm,kF a o ho na nt hn⟩) o';refine⟨rs.f0.trans s1,λa o h=>kH a o (rs.bh _ _ h) (λz=>by rw[fB a z]at h;cases h),s3,nf,kP,q1,q3 BE n2 BY,λa z=>?_⟩;rcases q2 a z with z|z
 ·rcases Ct a z with z|z
  ·exact fB a z
  ·exact rs.bh.free z
 ·exact hb a<|g2 a z
abbrev EF:=Env->Option D
class inductive pq (K:cL)(J:Nat->cN)(F V':Hp):List Nat->List D->List V->Prop
 |nil:pq K J F V' [] [] []
 |cons {n:Nat} {d:D} {v:V} {ns:List Nat} {O:List D} {vs:List V}:Al K J F V' n d v->pq K J F V' ns O vs->pq K J F V' (n::ns) (d::O) (v::vs)
variable {ns:List Nat}
theorem pq.mono (sF:ej F F')(sG:ej V' G'){vs:List V}(h:pq K J F V' ns O vs):pq K J F' G' ns O vs:=by
 induction h with
 |nil=>exact .nil
 |cons h t ih=>exact .cons (h.mono sF sG) ih
theorem pq.length {vs:List V}(h:pq K J F V' ns O vs):vs.length=ns.length:=by
 induction h with
 |nil=>rfl
 |cons h t ih=>rw[cX,cX,ih]
theorem pq.length' {vs:List V}(h:pq K J F V' ns O vs):O.length=vs.length:=by
 induction h with
 |nil=>rfl
 |cons h t ih=>rw[cX,cX,ih]
theorem pq.append {Iq:List Nat}{ds':List D}{LJ:List V}(q:pq K J F V' Iq ds' LJ){vs:List V}(h:pq K J F V' ns O vs):pq K J F V' (ns++Iq) (O++ds') (vs++LJ):=by
 induction h with
 |nil=>exact q
 |cons h t ih=>exact .cons h ih
section
variable (X:Cx)(J:Nat->cN)(S:List Mo)
def XE (n:Nat)(e:Expr)(f:EF):Prop:=∃t,PE X e t/\∀(F0 B F H:Hp) (Y:Env) (Z:St) (d:D) (Q:VK),RS X.K J F0 B S F H Y Z->f Y=U d ->
 (∀v F' H',kR F H F' H'->Al X.K J F' H' n d v->Q v H')->t Z H Q
def XO (k:Nat)(e:Expr)(f:EF):Prop:=∃t,PE X e t/\∀(F0 B F H:Hp) (Y:Env) (Z:St) (d:D) (Q:VK),RS X.K J F0 B S F H Y Z->f Y=U d ->
 (∀v F' H' fp,kR F H F' H'->Ow X.K J F' H' k d v fp->fp.Nodup->(∀a∈fp,H a=G)->Q v H')->t Z H Q
def XT (e:Expr)(f:Env->Option Bool):Prop:=∃t,PT X e t/\∀(F0 B F H:Hp) (Y:Env) (Z:St) (b:Bool) (Q:Bool->Hp->Prop),RS X.K J F0 B S F H Y Z->f Y=U b ->
 (∀F' H',kR F H F' H'->Q b H')->t Z H Q
def XW (e:Expr)(f:Env->Option Bool):Prop:=∃t,PW X e t/\∀(F0 B F H:Hp) (Y:Env) (Z:St) (b:Bool) (Q:Bool->Hp->Prop),RS X.K J F0 B S F H Y Z->f Y=U b ->
 (∀F' H',kR F H F' H'->Q b H')->t Z H Q
def XA (es:List Expr)(ns:List Nat)(f:Env->Option (List D)):Prop:=∃t,PA X es t/\(∀Y O,f Y=U O->O.length=es.length)/\∀(F0 B F H:Hp) (Y:Env) (Z:St) (O:List D) (Q:List V->Hp->Prop),RS X.K J F0 B S F H Y Z->f Y=U O ->
 (∀vs F' H',kR F H F' H'->pq X.K J F' H' ns O vs->Q vs H')->t Z H Q
end
def L (op:D->D->Option D)(f g:EF):EF:=λY=>(f Y).bind λx=>(g Y).bind λy=>op x y
def e1 (op:D->Option D)(f:EF):EF:=λY=>(f Y).bind op
def eN (op:List D->Option D)(f:Env->Option (List D)):EF:=λY=>(f Y).bind op
def eC (d:D):EF:=λ_=>U d
def M (i:Nat):EF:=λY=>(Y[i]?).join
def Å:Env->Option (List D):=λ_=>U []
def C (f:EF)(g:Env->Option (List D)):Env->Option (List D):=λY=>(f Y).bind λx=>(g Y).bind λxs=>U (x::xs)
variable {α β:Type}
theorem fu {γ:Type}{o:Option α}{p:Option β}{op:α->β->Option γ}{r:γ}(h:(o.bind λx=>p.bind λy=>op x y)=U r):∃x y,o=U x/\p=U y/\op x y=U r:=by
 cases o with
 |none=>cases h
 |some x=>
  cases p with
  |none=>cases h
  |some y=>exact⟨x,y,rfl,rfl,h⟩
theorem c9 {o:Option α}{op:α->Option β}{r:β}(h:o.bind op=U r):∃x,o=U x/\op x=U r:=by
 cases o with
 |none=>cases h
 |some x=>exact⟨x,rfl,h⟩
theorem zp {o:Option (Option α)}{x:α}(h:o.join=U x):o=U (U x):=by
 cases o with
 |none=>cases h
 |some y=>exact congrArg U h
def sV (K:cL)(J:Nat->cN)(n m k:Nat)(r:R2)(op:D->D->Option D):Prop :=
 ∀(F H:Hp) (x y:V) (d1 d2 d:D) (Q:VK),ej F H->Al K J F H n d1 x->Al K J F H m d2 y->op d1 d2=U d->(∀v F' H',kR F H F' H'->Al K J F' H' k d v->Q v H')->r x y H Q
def FL (K:cL)(J:Nat->cN)(n m k:Nat)(r:R2)(op:D->D->Option D):Prop :=
 ∀(F H:Hp) (x y:V) (d1 d2 d:D) (Q:VK),ej F H->Al K J F H n d1 x->Al K J F H m d2 y->op d1 d2=U d ->
  (∀v F' H' fp,kR F H F' H'->Ow K J F' H' k d v fp->fp.Nodup->(∀a∈fp,H a=G)->Q v H')->r x y H Q
def BX (K:cL)(J:Nat->cN)(ns:List Nat)(k:Nat)(r:List V->Hp->VK->Prop)(op:List D->Option D):Prop :=
 ∀(F H:Hp) (vs:List V) (O:List D) (d:D) (Q:VK),ej F H->pq K J F H ns O vs->op O=U d->(∀v F' H',kR F H F' H'->Al K J F' H' k d v->Q v H')->r vs H Q
def FM (K:cL)(J:Nat->cN)(ns:List Nat)(k:Nat)(r:List V->Hp->VK->Prop)(op:List D->Option D):Prop :=
 ∀(F H:Hp) (vs:List V) (O:List D) (d:D) (Q:VK),ej F H->pq K J F H ns O vs->op O=U d ->
  (∀v F' H' fp,kR F H F' H'->Ow K J F' H' k d v fp->fp.Nodup->(∀a∈fp,H a=G)->Q v H')->r vs H Q
variable {X:Cx}{a b c e:Expr}{es:List Expr}{f g h:EF}{fs:Env->Option (List D)}{m:Nat}{op:rX}{pos:mR}{r:R2}
theorem XE.up (he:XE X J S n e f)(hk:n<=k):XE X J S k e f:=by obtain⟨t,p,q⟩:=he;exact⟨t,p,λF0 B F H Y Z d Q r e w=>q F0 B F H Y Z d Q r e λv F' H' x l=>w v F' H' x<|l.up hk⟩
theorem XO.sh (he:XO X J S k e f):XE X J S n e f:=by obtain⟨t,p,q⟩:=he;refine⟨t,p,λF0 B F H Y Z d Q r e w=>q F0 B F H Y Z d Q r e λv F' H' fp x o nd hf=>?_⟩;obtain⟨F2,x2,h2⟩:=o.freeze x hf;exact w v F2 H' x2<|Al.of h2
theorem XE.ow (he:XE X J S 0 e f):XO X J S 0 e f:=by obtain⟨t,p,q⟩:=he;exact⟨t,p,λF0 B F H Y Z d Q r e w=>q F0 B F H Y Z d Q r e λv F' H' x l=>w v F' H' [] x ⟨l,rfl⟩ dZ λa z=>(by cases z)⟩
theorem vn (i n:Nat){m:Mo}(hm:S[i]?=U m:=by rfl)(hl:m.lv=n:=by rfl)(hN:X.N[i]?=U x:=by rfl)(hv:rZ X.env.scope x:=by walk_at "v1")(hd:kW x:=by decide)
  (kT:sU x:=by decide):XE X J S n (.Name x pos) (M i):=by
 subst hl;refine⟨_,xm hN hv hd kT,λF0 B F H Y Z d Q r e w=>?_⟩;obtain⟨v,hv,l⟩:=r.get hm<|zp e;exact⟨v,hv,w v F H (.refl r.fh) l⟩
theorem Ż {i:Int}{j}:XE X J S n (.Constant (.int i) j pos) (eC<|.int i):=⟨_,ύ,λF0 B F H Y Z d Q r e w=>by cases e;exact w _ F H (.refl r.fh)<|Al.of<|.int i⟩
theorem xu {i:Bool}{j}:XE X J S n (.Constant (.bool i) j pos) (eC<|.bl i):=⟨_,ļ,λF0 B F H Y Z d Q r e w=>by cases e;exact w _ F H (.refl r.fh)<|Al.of<|.bl i⟩
theorem zl {i:Str}{j}:XE X J S n (.Constant (.str i) j pos) (eC<|.str i):=⟨_,ϋ,λF0 B F H Y Z d Q r e w=>by cases e;exact w _ F H (.refl r.fh)<|Al.of<|.str i⟩
theorem ź {j}:XE X J S n (.Constant .none j pos) (eC .non):=⟨_,ό,λF0 B F H Y Z d Q r e w=>by cases e;exact w _ F H (.refl r.fh)<|Al.of .non⟩
theorem XE.bin (ha:XE X J S n a f)(hb:XE X J S m b g):∃ta tb,PE X a ta/\PE X b tb/\∀(F0 B F H:Hp) (Y:Env) (Z:St) (d1 d2:D) (R:V->V->Hp->Prop),RS X.K J F0 B S F H Y Z->f Y=U d1->g Y=U d2 ->
  (∀x y F' H',kR F H F' H'->Al X.K J F' H' n d1 x->Al X.K J F' H' m d2 y->R x y H')->ta Z H λx H1=>tb Z H1 λy H2=>R x y H2:=by
 obtain⟨ta,pa,qa⟩:=ha;obtain⟨tb,pb,qb⟩:=hb;refine⟨ta,tb,pa,pb,λF0 B F H Y Z d1 d2 R r e1 L w=>qa F0 B F H Y Z d1 _ r e1 λx F1 H1 x1 l1=>?_⟩;exact qb F0 B F1 H1 Y Z d2 _ (r.ext x1) L λy F2 H2 x2 l2=>w x y F2 H2 (x1.trans x2) (l1.mono x2.ff x2.hh) l2
theorem jx {o:D->D->Option D}(ho:lU X (ik op) r)(hs:sV X.K J n m k r o)(ha:XE X J S n a f)(hb:XE X J S m b g):XE X J S k (.BinOp a op b pos) (L o f g):=by obtain⟨ta,tb,pa,pb,q⟩:=ha.bin hb;refine⟨_,Jw ho pa pb,λF0 B F H Y Z d Q rs e w=>?_⟩;obtain⟨d1,d2,h1,h2,h3⟩:=fu e;exact q F0 B F H Y Z d1 d2 _ rs h1 h2 λx y F' H' x1 l1 l2=>hs F' H' x y d1 d2 d Q x1.fh l1 l2 h3 λv F2 H2 x2 l=>w v F2 H2 (x1.trans x2) l
theorem R6 {o:D->D->Option D}(ho:lU X (ik op) r)(hs:FL X.K J n m k r o)(ha:XE X J S n a f)(hb:XE X J S m b g):XO X J S k (.BinOp a op b pos) (L o f g):=by obtain⟨ta,tb,pa,pb,q⟩:=ha.bin hb;refine⟨_,Jw ho pa pb,λF0 B F H Y Z d Q rs e w=>?_⟩;obtain⟨d1,d2,h1,h2,h3⟩:=fu e;exact q F0 B F H Y Z d1 d2 _ rs h1 h2 λx y F' H' x1 l1 l2=>hs F' H' x y d1 d2 d Q x1.fh l1 l2 h3 λv F2 H2 fp x2 l nd hf=>w v F2 H2 fp (x1.trans x2) l nd λz hz=>x1.hh.free<|hf z hz
theorem Hy {op:Aw}{o:D->D->Option D}(ho:lU X (eX op) r)(hs:sV X.K J n m k r o)(ha:XE X J S n a f)(hb:XE X J S m b g)(hm:f9 op b=Ã):XE X J S k (.Compare a [op] [b] pos) (L o f g):=by obtain⟨ta,tb,pa,pb,q⟩:=ha.bin hb;refine⟨_,Qu ho pa pb hm,λF0 B F H Y Z d Q rs e w=>?_⟩;obtain⟨d1,d2,h1,h2,h3⟩:=fu e;exact q F0 B F H Y Z d1 d2 _ rs h1 h2 λx y F' H' x1 l1 l2=>hs F' H' x y d1 d2 d Q x1.fh l1 l2 h3 λv F2 H2 x2 l=>w v F2 H2 (x1.trans x2) l
theorem FB {o:D->D->Option D}(hr:BW X r)(hs:sV X.K J n m k r o)(ha:XE X J S n a f)(hb:XE X J S m b g)(hp:n8 b):XE X J S k (.Subscript a b pos) (L o f g):=by obtain⟨ta,tb,pa,pb,q⟩:=ha.bin hb;refine⟨_,Jx hr pa pb hp,λF0 B F H Y Z d Q rs e w=>?_⟩;obtain⟨d1,d2,h1,h2,h3⟩:=fu e;exact q F0 B F H Y Z d1 d2 _ rs h1 h2 λx y F' H' x1 l1 l2=>hs F' H' x y d1 d2 d Q x1.fh l1 l2 h3 λv F2 H2 x2 l=>w v F2 H2 (x1.trans x2) l
theorem ŏ {op:UnaryOp}{r:V->Hp->VK->Prop}{o:D->Option D}(ho:HH X (unaryOp op) r)
  (hs:∀(F H:Hp) (x:V) (d1 d:D) (Q:VK),ej F H->Al X.K J F H n d1 x->o d1=U d->(∀v F' H',kR F H F' H'->Al X.K J F' H' k d v->Q v H')->r x H Q) (ha:XE X J S n a f):XE X J S k (.UnaryOp op a pos) (e1 o f):=by
 obtain⟨ta,pa,qa⟩:=ha;refine⟨_,ĺ ho pa,λF0 B F H Y Z d Q rs e w=>?_⟩;obtain⟨d1,h1,h2⟩:=c9 e;exact qa F0 B F H Y Z d1 _ rs h1 λx F' H' x1 l1=>hs F' H' x d1 d Q x1.fh l1 h2 λv F2 H2 x2 l=>w v F2 H2 (x1.trans x2) l
theorem ze:XA X J S [] [] Å:=⟨_,xx,λY O e=>(by cases e;rfl),λF0 B F H Y Z O Q r e w=>by cases e;exact w [] F H (.refl r.fh) .nil⟩
theorem za (ha:XE X J S n a f)(hr:XA X J S es ns fs)(hs:SE X a es:=by rfl):XA X J S (a::es) (n::ns) (C f fs):=by obtain⟨ta,pa,qa⟩:=ha;obtain⟨tb,pb,lb,qb⟩:=hr;refine⟨_,ye pa pb hs,λY O e=>(by obtain⟨x,xs,h1,h2,h3⟩:=fu e;cases h3;rw[cX,cX,lb _ _ h2]),λF0 B F H Y Z O Q r e w=>?_⟩;obtain⟨x,xs,h1,h2,h3⟩:=fu e;cases h3;refine qa F0 B F H Y Z x _ r h1 λv F1 H1 x1 l1=>?_;exact qb F0 B F1 H1 Y Z xs _ (r.ext x1) h2 λvs F2 H2 x2 l2=>w (v::vs) F2 H2 (x1.trans x2)<|.cons (l1.mono x2.ff x2.hh) l2
def FT (X:Cx)(J:Nat->cN)(S:List Mo)(k:Nat)(es:List Expr)(f:Env->Option (List D)):Prop:=∃t,PA X es t/\(∀Y O,f Y=U O->O.length=es.length)/\∀(F0 B F H:Hp) (Y:Env) (Z:St) (O:List D) (Q:List V->Hp->Prop),RS X.K J F0 B S F H Y Z->f Y=U O ->
 (∀vs F' H' fp,kR F H F' H'->iH (Ow X.K J F' H' k) O vs fp->fp.Nodup->(∀a∈fp,H a=G)->Q vs H')->t Z H Q
theorem zt:FT X J S k [] Å:=⟨_,xx,λY O e=>(by cases e;rfl),λF0 B F H Y Z O Q r e w=>by cases e;exact w [] F H [] (.refl r.fh) .nil dZ λa z=>(by cases z)⟩
theorem zj (ha:XO X J S k a f)(hr:FT X J S k es fs)(hs:SE X a es:=by rfl):FT X J S k (a::es) (C f fs):=by
 obtain⟨ta,pa,qa⟩:=ha;obtain⟨tb,pb,lb,qb⟩:=hr;refine⟨_,ye pa pb hs,λY O e=>(by obtain⟨x,xs,h1,h2,h3⟩:=fu e;cases h3;rw[cX,cX,lb _ _ h2]),λF0 B F H Y Z O Q r e w=>?_⟩;obtain⟨x,xs,h1,h2,h3⟩:=fu e;cases h3;refine qa F0 B F H Y Z x _ r h1 λv F1 H1 f1 x1 l1 n1 a1=>?_;refine qb F0 B F1 H1 Y Z xs _ (r.ext x1) h2 λvs F2 H2 f2 x2 l2 n2 a2=>w (v::vs) F2 H2 (f1++f2) (x1.trans x2) (.cons (l1.ext x2) l2) (c8.mpr ⟨n1,n2,λz hz y hy e=>?_⟩) λz hz=>?_
 ·subst e;obtain⟨_,o,ho,_⟩:=l1.cells z hz;rw[a2 z hy]at ho;cases ho
 ·rcases dc.mp hz with hz|hz
  ·exact a1 z hz
  ·exact x1.hh.free<|a2 z hz
def Cr:D->Option Bool
 |.bl b=>U b
 |_=>G
theorem vg {b:Bool}(h:Cr d=U b):d=.bl b:=by cases d<;>simp[Cr]at h;subst h;rfl
abbrev BF:=Env->Option Bool
def tb (f:EF):BF:=λY=>(f Y).bind Cr
def Û (f:BF):BF:=λY=>(f Y).bind λb=>U<|!b
def Ü (f g:BF):BF:=λY=>(f Y).bind λb=>if b=Â then g Y else U Ã
def è (f g:BF):BF:=λY=>(f Y).bind λb=>if b=Â then U Â else g Y
def eB (f:BF):EF:=λY=>(f Y).bind λb=>U<|.bl b
def î (c:BF)(f g:EF):EF:=λY=>(c Y).bind λb=>if b=Â then f Y else g Y
variable {fL pp:mR}{c0 kk rk:Nat}{cs nd pm:List Nat}{pH:List D}{rH:List cJ}{nP:List V}{fa:cN}{mf:List D->Option D}{o:Expr}{p q:BF}{pl:uP Bool}{ps:List Str}
section
theorem xn (he:XE X J S n e f)(hi:∀whole,yD e X.env whole=(do let v ← whole;kN e.pos;ir [v] (truthy v)):=by intro _;rfl):XT X J S e (tb f):=by obtain⟨t,pt,qt⟩:=he;refine⟨_,Rl pt hi,λF0 B F H Y Z b Q r e w=>?_⟩;obtain⟨d,h1,h2⟩:=c9 e;rw[vg h2]at h1;exact qt F0 B F H Y Z _ _ r h1 λv F' H' x l=>⟨b,l.bl,w F' H' x⟩
theorem vo {op:Aw}{o:D->D->Option D}(ho:lU X (eX op) r)(hs:sV X.K J n m k r o)(ha:XE X J S n a f)(hb:XE X J S m b g)(hm:f9 op b=Ã):XT X J S (.Compare a [op] [b] pos) (tb<|L o f g):=by obtain⟨ta,tb,pa,pb,q⟩:=ha.bin hb;refine⟨_,Qv ho pa pb hm,λF0 B F H Y Z b Q rs e w=>?_⟩;obtain⟨d,h0,h4⟩:=c9 e;rw[vg h4]at h0;obtain⟨d1,d2,h1,h2,h3⟩:=fu h0;exact q F0 B F H Y Z d1 d2 _ rs h1 h2 λx y F' H' x1 l1 l2=>hs F' H' x y d1 d2 _ _ x1.fh l1 l2 h3 λv F2 H2 x2 l=>⟨b,l.bl,w F2 H2<|x1.trans x2⟩
theorem XW.t (h:XW X J S e p):XT X J S e p:=by obtain⟨t,pt,qt⟩:=h;exact⟨t,pt.pt,qt⟩
theorem IR (ha:XT X J S a p):XW X J S (.BoolOp .And [a] pos) p:=by obtain⟨t,pt,qt⟩:=ha;exact⟨t,zs7 pt,qt⟩
theorem vp (ha:XT X J S a p):XW X J S (.BoolOp .Or [a] pos) p:=by obtain⟨t,pt,qt⟩:=ha;exact⟨t,Rm pt,qt⟩
theorem Jn {Î:List Expr}(ha:XT X J S a p)(hb:XW X J S (.BoolOp .And (b::Î) pos) q):XW X J S (.BoolOp .And (a::b::Î) pos) (Ü p q):=by
 obtain⟨t,pt,qt⟩:=ha;obtain⟨u,pu,qu⟩:=hb;refine⟨_,ϊ pt pu,λF0 B F H Y Z r Q rs e w=>?_⟩;obtain⟨x,h1,h2⟩:=c9 e;refine qt F0 B F H Y Z x _ rs h1 λF1 H1 x1=>?_;cases x with
 |true=>rw[if_pos rfl];exact qu F0 B F1 H1 Y Z r _ (rs.ext x1) h2 λF2 H2 x2=>w F2 H2<|x1.trans x2
 |false=>cases h2;rw[if_neg cZ];exact w F1 H1 x1
theorem v7 {Î:List Expr}(ha:XT X J S a p)(hb:XW X J S (.BoolOp .Or (b::Î) pos) q):XW X J S (.BoolOp .Or (a::b::Î) pos) (è p q):=by
 obtain⟨t,pt,qt⟩:=ha;obtain⟨u,pu,qu⟩:=hb;refine⟨_,RZ pt pu,λF0 B F H Y Z r Q rs e w=>?_⟩;obtain⟨x,h1,h2⟩:=c9 e;refine qt F0 B F H Y Z x _ rs h1 λF1 H1 x1=>?_;cases x with
 |true=>cases h2;rw[if_pos rfl];exact w F1 H1 x1
 |false=>rw[if_neg cZ];exact qu F0 B F1 H1 Y Z r _ (rs.ext x1) h2 λF2 H2 x2=>w F2 H2<|x1.trans x2
theorem wa (ha:XT X J S a p):XT X J S (.UnaryOp .Not a pos) (Û p):=by obtain⟨t,pt,qt⟩:=ha;refine⟨_,Rn pt,λF0 B F H Y Z r Q rs e w=>?_⟩;obtain⟨x,h1,h2⟩:=c9 e;cases h2;exact qt F0 B F H Y Z x _ rs h1 λF1 H1 x1=>w F1 H1 x1
theorem v8 {op}(ha:XE X J S n a f):XE X J S k (.BoolOp op [a] pos) (eB<|tb f):=by obtain⟨t,pt,qt⟩:=ha;refine⟨_,Ω pt,λF0 B F H Y Z r Q rs e w=>?_⟩;obtain⟨y,h3,h4⟩:=c9 e;obtain⟨z,h5,h6⟩:=c9 h3;cases h4;rw[vg h6]at h5;exact qt F0 B F H Y Z _ _ rs h5 λv F1 H1 x1 l=>w _ F1 H1 x1 (by rw[l.bl];exact Al.of<|.bl _)
theorem jc {Î:List Expr}(ha:XE X J S n a f)(hb:XE X J S k (.BoolOp .And (b::Î) pos)<|eB q):XE X J S k (.BoolOp .And (a::b::Î) pos) (eB<|Ü (tb f) q):=by
 obtain⟨t,pt,qt⟩:=ha;obtain⟨u,pu,qu⟩:=hb;refine⟨_,Ψ pt pu,λF0 B F H Y Z r Q rs e w=>?_⟩;obtain⟨y,h3,h4⟩:=c9 e;obtain⟨x,h1,h2⟩:=c9 h3;obtain⟨z,h5,h6⟩:=c9 h1;cases h4;rw[vg h6]at h5;refine qt F0 B F H Y Z _ _ rs h5 λv F1 H1 x1 l=>⟨x,l.bl,?_⟩;cases x with
 |true=>rw[if_pos rfl];exact qu F0 B F1 H1 Y Z _ _ (rs.ext x1) (show(q Y).bind _=_ by rw[if_pos rfl]at h2;rw[h2];rfl) λv F2 H2 x2 l=>w v F2 H2 (x1.trans x2) l
 |false=>rw[if_neg cZ]at h2 ⊢;cases h2;exact w _ F1 H1 x1<|Al.of<|.bl _
theorem Na {Î:List Expr}(ha:XE X J S n a f)(hb:XE X J S k (.BoolOp .Or (b::Î) pos)<|eB q):XE X J S k (.BoolOp .Or (a::b::Î) pos) (eB<|è (tb f) q):=by
 obtain⟨t,pt,qt⟩:=ha;obtain⟨u,pu,qu⟩:=hb;refine⟨_,Ļ pt pu,λF0 B F H Y Z r Q rs e w=>?_⟩;obtain⟨y,h3,h4⟩:=c9 e;obtain⟨x,h1,h2⟩:=c9 h3;obtain⟨z,h5,h6⟩:=c9 h1;cases h4;rw[vg h6]at h5;refine qt F0 B F H Y Z _ _ rs h5 λv F1 H1 x1 l=>⟨x,l.bl,?_⟩;cases x with
 |true=>rw[if_pos rfl]at h2 ⊢;cases h2;exact w _ F1 H1 x1<|Al.of<|.bl _
 |false=>rw[if_neg cZ];exact qu F0 B F1 H1 Y Z _ _ (rs.ext x1) (show(q Y).bind _=_ by rw[if_neg cZ]at h2;rw[h2];rfl) λv F2 H2 x2 l=>w v F2 H2 (x1.trans x2) l
theorem Cb (hc:XT X J S c p)(ha:XE X J S k a f)(hb:XE X J S k b g):XE X J S k (.IfExp c a b pos) (î p f g):=by
 obtain⟨s,ps,qs⟩:=hc;obtain⟨t,pt,qt⟩:=ha;obtain⟨u,pu,qu⟩:=hb;refine⟨_,Zb ps pt pu,λF0 B F H Y Z r Q rs e w=>?_⟩;obtain⟨x,h1,h2⟩:=c9 e;refine qs F0 B F H Y Z x _ rs h1 λF1 H1 x1=>?_;cases x with
 |true=>rw[if_pos rfl]at h2 ⊢;exact qt F0 B F1 H1 Y Z _ _ (rs.ext x1) h2 λv F2 H2 x2 l=>w v F2 H2 (x1.trans x2) l
 |false=>rw[if_neg cZ]at h2 ⊢;exact qu F0 B F1 H1 Y Z _ _ (rs.ext x1) h2 λv F2 H2 x2 l=>w v F2 H2 (x1.trans x2) l
theorem qx {x1}(h:FT X J S k es fs)(hl:es.length<=1000:=by decide):XO X J S (k+1) (.Tuple es x1 pos) (λY=>(fs Y).bind λO=>U<|.tup O):=by
 obtain⟨t,pt,lt,qt⟩:=h;refine⟨_,MR pt,λF0 B F H Y Z r Q rs e w=>?_⟩;obtain⟨O,h1,h2⟩:=c9 e;cases h2;refine qt F0 B F H Y Z O _ rs h1 λvs F1 H1 fp x1 l nd hf=>⟨?_,λp hp=>?_⟩
 ·rw[←l.length,lt _ _ h1];exact ò hl
 ·have x2:=kR.newS x1.fh hp<|.tup vs;exact w _ _ _ fp (x1.trans x2) (.inr<|.tup zu<|l.mono λ_ _ _ _ o=>o.ext x2) nd hf
theorem iH.cellsOf {vs:List V}(l:iH (Ow K J F H k) O vs fp):∀a∈fp,F a=G/\∃o,H a=U o/\oR o:=iH.cells0 (λd v f q=>Ow.cells q) l
theorem Qz {vs:List V}{p:cN}(s:ej F H)(l:iH (Ow K J F H k) O vs fp)(hp:H p=G):Ow K J F (upd H p<|.lst vs) (k+1) (.lst O) (.ref p) (p::fp)/\(fp.Nodup->(p::fp).Nodup) :=
 ⟨.inr<|.lst (s.free hp) zu<|l.mono λ_ _ _ _ o=>o.ext<|kR.newO s hp _,λnd=>dO.mpr ⟨λz=>(by obtain⟨_,o,ho,_⟩:=iH.cellsOf l p z;rw[hp]at ho;cases ho),nd⟩⟩
theorem yb (h:FT X J S k es fs)(hl:es.length<=1000:=by decide):XO X J S (k+1) (.List es pos) (λY=>(fs Y).bind λO=>U<|.lst O):=by
 obtain⟨t,pt,lt,qt⟩:=h;refine⟨_,ϟ pt,λF0 B F H Y Z r Q rs e w=>?_⟩;obtain⟨O,h1,h2⟩:=c9 e;cases h2;refine qt F0 B F H Y Z O _ rs h1 λvs F1 H1 fp x1 l nd hf=>⟨?_,λp hp=>?_⟩
 ·rw[←l.length,lt _ _ h1];exact ò hl
 ·obtain⟨o,n2⟩:=Qz x1.fh l hp;refine w _ _ _ (p::fp) (x1.trans<|kR.newO x1.fh hp _) o (n2 nd) λz hz=>?_;rcases cP.mp hz with rfl|hz
  ·exact x1.hh.free hp
  ·exact hf z hz
theorem Qd:XO X J S (k+1) (.Dict [] [] pos) (eC<|.dK [] []):=by refine⟨_,ZF,λF0 B F H Y Z r Q rs e w p hp=>?_⟩;cases e;refine w _ F _ [p] (kR.newO rs.fh hp _) (.inr<|Ac.dK (vs:=[]) (rs.fh.free hp) zu rfl .nil) (by simp) λz hz=>?_;rw[ef]at hz;subst hz;exact hp
theorem ZO:XO X J S (k+1) (.Dict [] [] pos) (eC<|.dT [] []):=by refine⟨_,ZG,λF0 B F H Y Z r Q rs e w p hp=>?_⟩;cases e;refine w _ F _ [p] (kR.newO rs.fh hp _) (.inr<|Ac.dT (vs:=[]) (rs.fh.free hp) zu rfl .nil) (by simp) λz hz=>?_;rw[ef]at hz;subst hz;exact hp
def iP (K:cL)(J:Nat->cN)(pm:List Nat)(rk:Nat)(m:List D->Option D):Sp:=λvs H Q _=>∃(F:Hp) (O:List D) (d:D),ej F H/\pq K J F H pm O vs/\m O=U d /\
 ∀v F' H' fp,kR F H F' H'->Ow K J F' H' rk d v fp->fp.Nodup->(∀a∈fp,H a=G)->Q v H'
theorem iP.len {m:List D->Option D}(h:pm.length=ps.length):∀vs H Q E,iP K J pm rk m vs H Q E->vs.length=ps.length:=by rintro vs H Q E ⟨F,O,d,_,l,_⟩;rw[l.length,h]
variable {fd:cT}
theorem jy (Fn:dR X.prog X.w X.K X.mg X.base fQ kk fa fd ps<|iP X.K J (ns++nd) rk mf)(hr:gu kk X.A)(hg:Gl X x)(hm:X.mg x=U (.ref fa))(hk:fU X.K (.ref fa)=Â)
  (hb:gM X.K fd ps rH) (hd:ez nP rH) (D6:∀F V',pq X.K J F V' nd pH nP) (ha:XA X J S (e::es) ns fs)
  (oV:kW x:=by decide) (he:SE X e es:=by rfl) (lW:pW X pos es:=by rfl) :
  XO X J S rk (.Call (.Name x pp) (e::es) [] pos) (λY=>(fs Y).bind λO=>mf<|O++pH):=by
 obtain⟨t,pt,_,qt⟩:=ha;refine⟨_,Mz Fn hr hg hm hk hb hd qN pt oV he lW,λF0 B F H Y Z r Q rs e w=>?_⟩;obtain⟨O,h1,h2⟩:=c9 e;refine qt F0 B F H Y Z O _ rs h1 λvs F1 H1 x1 l=>⟨F1,O++pH,r,x1.fh,pq.append (D6 F1 H1) l,h2,λv F2 H2 fp x2 o nd hf=>?_⟩;exact w v F2 H2 fp (x1.trans x2) o nd λz hz=>x1.hh.free<|hf z hz
theorem xo {id:String}{r:List V->Hp->VK->Prop}{op:List D->Option D}(hc:jK X (.builtin id) r)(hs:BX X.K J ns k r op)(hg:Gl X x)(hm:X.mg x=G)(hv:eP x=U (.builtin id))(ha:XA X J S (e::es) ns fs)
  (hn:x≠"__name__":=by decide) (oV:kW x:=by decide) (he:SE X e es:=by rfl) (lW:pW X pos es:=by rfl) :
  XE X J S k (.Call (.Name x pp) (e::es) [] pos) (eN op fs):=by
 obtain⟨t,pt,_,qt⟩:=ha;refine⟨_,L8 hc hg hm hv pt hn oV he lW,λF0 B F H Y Z r Q rs e w=>?_⟩;obtain⟨O,h1,h2⟩:=c9 e;exact qt F0 B F H Y Z O _ rs h1 λvs F1 H1 x1 l=>hs F1 H1 vs O r Q x1.fh l h2 λv F2 H2 x2 l2=>w v F2 H2 (x1.trans x2) l2
theorem zm {id:String}{r:List V->Hp->VK->Prop}{op:List D->Option D}(hc:jK X (.type id) r)(hs:BX X.K J ns k r op)(hg:Gl X x)(hm:X.mg x=G)(hv:eP x=U (.type id))(ha:XA X J S (e::es) ns fs)
  (hn:x≠"__name__":=by decide) (oV:kW x:=by decide) (he:SE X e es:=by rfl) (lW:pW X pos es:=by rfl) :
  XE X J S k (.Call (.Name x pp) (e::es) [] pos) (eN op fs):=by
 obtain⟨t,pt,_,qt⟩:=ha;refine⟨_,Pg hc hg hm hv pt hn oV he lW,λF0 B F H Y Z r Q rs e w=>?_⟩;obtain⟨O,h1,h2⟩:=c9 e;exact qt F0 B F H Y Z O _ rs h1 λvs F1 H1 x1 l=>hs F1 H1 vs O r Q x1.fh l h2 λv F2 H2 x2 l2=>w v F2 H2 (x1.trans x2) l2
theorem LQ {id:String}{r:List V->Hp->VK->Prop}{op:List D->Option D}(hc:jK X (.type id) r)(hs:FM X.K J ns k r op)(hg:Gl X x)(hm:X.mg x=G)(hv:eP x=U (.type id))(ha:XA X J S (e::es) ns fs)
  (hn:x≠"__name__":=by decide) (oV:kW x:=by decide) (he:SE X e es:=by rfl) (lW:pW X pos es:=by rfl) :
  XO X J S k (.Call (.Name x pp) (e::es) [] pos) (eN op fs):=by
 obtain⟨t,pt,_,qt⟩:=ha;refine⟨_,Pg hc hg hm hv pt hn oV he lW,λF0 B F H Y Z r Q rs e w=>?_⟩;obtain⟨O,h1,h2⟩:=c9 e;exact qt F0 B F H Y Z O _ rs h1 λvs F1 H1 x1 l=>hs F1 H1 vs O r Q x1.fh l h2 λv F2 H2 fp x2 l2 nd hf=>w v F2 H2 fp (x1.trans x2) l2 nd λz hz=>x1.hh.free<|hf z hz
theorem PE.or {t u:TE}(h1:PE X e t)(h2:PE X e u):PE X e (λZ H Q=>t Z H Q\/u Z H Q):=λcM s Z H Q I h=>h.elim (h1 cM s Z H Q I)<|h2 cM s Z H Q I
theorem R7 (ha:XO X J S k e f)(hb:XO X J S k e g):XO X J S k e (λY=>(f Y).or<|g Y):=by
 obtain⟨t,pt,qt⟩:=ha;obtain⟨u,pu,qu⟩:=hb;refine⟨_,PE.or pt pu,λF0 B F H Y Z r Q rs e w=>?_⟩;dsimp only at e ⊢;cases h:f Y with
 |some d=>rw[h]at e;cases e;exact .inl<|qt F0 B F H Y Z _ Q rs h w
 |none=>rw[h]at e;exact .inr<|qu F0 B F H Y Z r Q rs e w
def dH (cs:List Nat)(x:Str):D->Option D
 |.obj c ns O=>if cs.contains c=Â then(ns.zip O).lookup x else G
 |_=>G
theorem uo {R:D->V->Prop}{x:Str}{d:D}:∀{ns:List Str} {O:List D} {vs:List V},Pr R O vs->(ns.zip O).lookup x=U d->∃v,(ns.zip vs).lookup x=U v/\R d v
 |[],_,_,_,e=>by simp at e
 |_::_,_,_,.nil,e=>by simp at e
 |y::ns,_,_,.cons h t,e=>by
  rw[eh,df]at e;rw[eh,df];cases q:x==y with
  |true=>rw[q]at e;cases e;exact⟨_,rfl,h⟩
  |false=>rw[q]at e;exact uo t e
theorem IL {vs:List V}{x:Str}:∀{ns:List Str} {vs:List V},ns.contains x=Ã->(ns.zip vs).lookup x=G
 |[],_,_=>by simp
 |_::_,[],_=>by simp
 |y::ns,_::vs,h=>by rw[iY,qA]at h;rw[eh,df,h.1];exact IL (vs:=vs) h.2
theorem Rj (he:XE X J S n e f)(hc:∀c∈cs,nY X.K (J c)/\fP X.K (J c) x)(hb:yO X e x):XE X J S (n-1) (.Attribute e x pos) (e1 (dH cs x) f):=by
 obtain⟨t,pt,qt⟩:=he;refine⟨_,MQ pt hb,λF0 B F H Y Z r Q rs e w=>?_⟩;obtain⟨o,h1,h2⟩:=c9 e;refine qt F0 B F H Y Z o _ rs h1 λv F1 H1 x1 l=>?_;cases o with
 |obj c ns O=>
  obtain⟨a,dx,vs,rfl,ha,hl,Cw⟩:=l.obj x1.fh;unfold dH at h2;dsimp only at h2;by_cases Bv:cs.contains c=Â
  ·rw[if_pos Bv]at h2;obtain⟨u,hu,du⟩:=uo Cw h2;have hh:=hc c (by simpa using Bv);exact⟨a,_,dx,_,u,rfl,ha,hh.1,hh.2,hu,w u F1 H1 x1 du⟩
  ·rw[if_neg Bv]at h2;cases h2
 |_=>cases h2
def ko (c0:Nat)(m:Str)(mf:List D->Option D)(o:D)(O:List D):Option D:=match o with
 |.obj c ns _=>if c=c0/\ns.contains m=Ã then mf (o::O)else G
 |_=>G
theorem u3 (ho:XE X J S n o f)(c:nY X.K<|J c0)(hm:yR X.K (J c0) x fa)(Fn:dR X.prog X.w X.K X.mg X.base fQ kk fa fd ps<|iP X.K J (n::(ns++nd)) rk mf)(hr:gu kk X.A)
  (hb:gM X.K fd ps rH) (hd:ez nP rH) (D6:∀F V',pq X.K J F V' nd pH nP) (ha:XA X J S (e::es) ns fs)
  (lE:SE X e es:=by rfl) (lW:pW X pos es:=by rfl)
  (ht:eW (.Call (.Attribute o x fL) (e::es) [] pos) X.env=(do
   let ov ← eW o X.env
   kN fL.atName
   let(f,first) ← ir [ov] (lD ov x pl)
   mS pos f first (i8 pos<|dJ (e::es) X.env) (i9 pos<|fY [] X.env)):=by rfl) :
  XO X J S rk (.Call (.Attribute o x fL) (e::es) [] pos) (λY=>(f Y).bind λo=>(fs Y).bind λO=>ko c0 x mf o<|O++pH):=by
 obtain⟨u,pu,qu⟩:=ho;obtain⟨t,pt,_,qt⟩:=ha;refine⟨_,Qw pu c hm Fn hr hb hd qN pt lE lW ht,λF0 B F H Y Z r Q rs e w=>?_⟩;obtain⟨o,O,h1,h2,h3⟩:=fu e;refine qu F0 B F H Y Z o _ rs h1 λv F1 H1 x1 l=>?_;cases o with
 |obj c1 Iq ds'=>
  unfold ko at h3;dsimp only at h3;split at h3
  ·rename_i hc;obtain⟨rfl,wO⟩:=hc;obtain⟨a,dx,vs,rfl,ha,hl,Cw⟩:=l.obj x1.fh;refine⟨a,dx,_,rfl,ha,IL (vs:=vs) wO,?_⟩;refine qt F0 B F1 H1 Y Z O _ (rs.ext x1) h2 λus F2 H2 x2 l2=>⟨F2,_,r,x2.fh,.cons (l.mono x2.ff x2.hh)<|pq.append (D6 F2 H2) l2,h3,λv F3 H3 fp x3 o nd hf=>?_⟩;exact w v F3 H3 fp ((x1.trans x2).trans x3) o nd λz hz=>(x1.trans x2).hh.free<|hf z hz
  ·cases h3
 |_=>cases h3
theorem xy (ho:XE X J S n o f)(c:nY X.K<|J c0)(hm:yR X.K (J c0) x fa)(Fn:dR X.prog X.w X.K X.mg X.base fQ kk fa fd ps<|iP X.K J (n::nd) rk mf)(hr:gu kk X.A)
  (hb:gM X.K fd ps rH) (hd:ez nP rH) (D6:∀F V',pq X.K J F V' nd pH nP)
  (ht:eW (.Call (.Attribute o x fL) [] [] pos) X.env=(do
   let ov ← eW o X.env
   kN fL.atName
   let(f,first) ← ir [ov] (lD ov x pl)
   mS pos f first (i8 pos<|dJ [] X.env) (i9 pos<|fY [] X.env)):=by rfl) :
  XO X J S rk (.Call (.Attribute o x fL) [] [] pos) (λY=>(f Y).bind λo=>ko c0 x mf o pH):=by
 obtain⟨u,pu,qu⟩:=ho;refine⟨_,Zz pu c hm Fn hr hb hd qN ht,λF0 B F H Y Z r Q rs e w=>?_⟩;obtain⟨o,h1,h3⟩:=c9 e;refine qu F0 B F H Y Z o _ rs h1 λv F1 H1 x1 l=>?_;cases o with
 |obj c1 Iq ds'=>
  unfold ko at h3;dsimp only at h3;split at h3
  ·rename_i hc;obtain⟨rfl,wO⟩:=hc;obtain⟨a,dx,vs,rfl,ha,hl,Cw⟩:=l.obj x1.fh;refine⟨a,dx,_,rfl,ha,IL (vs:=vs) wO,F1,_,r,x1.fh,.cons l<|D6 F1 H1,h3,λv F3 H3 fp x3 o nd hf=>?_⟩;exact w v F3 H3 fp (x1.trans x3) o nd λz hz=>x1.hh.free<|hf z hz
  ·cases h3
 |_=>cases h3
end
inductive ï where
 |nx (Y:Env)|rt (d:D)|bk (Y:Env)|ct (Y:Env)
abbrev SF:=Env->Option ï
def sW (K:cL)(cl:Nat->cN)(F0 B:Hp)(S:List Mo)(rk:Nat)(E:sx):ï->Prop
 |.nx Y=>∀Z F H,RS K cl F0 B S F H Y Z->E.nx Z H
 |.bk Y=>∀Z F H,RS K cl F0 B S F H Y Z->E.bk Z H
 |.ct Y=>∀Z F H,RS K cl F0 B S F H Y Z->E.ct Z H
 |.rt d=>∀v F H fp,ej F0 F->ej B H->ej F H->(∀a o,B a=U o->oR o->F0 a=G->F a=G)->Ow K cl F H rk d v fp->fp.Nodup->(∀a∈fp,B a=G)->E.rt v H
section
variable (X:Cx)(J:Nat->cN)(S:List Mo)(rk:Nat)
def XS (st:eo)(f:SF):Prop:=∃t,PS X st t/\∀(F0 B F H:Hp) (Y:Env) (Z:St) (o:ï) (E:sx),RS X.K J F0 B S F H Y Z->f Y=U o->sW X.K J F0 B S rk E o->t E Z H
def wM (st:List eo)(f:SF):Prop:=∃t,yU X st t/\∀(F0 B F H:Hp) (Y:Env) (Z:St) (o:ï) (E:sx),RS X.K J F0 B S F H Y Z->f Y=U o->sW X.K J F0 B S rk E o->t E Z H
end
def Ë:SF:=λY=>U<|.nx Y
def Ç (f g:SF):SF:=λY=>(f Y).bind λo=>match o with
 |.nx ρ'=>g ρ'
 |o=>U o
def Ö (c:BF)(f g:SF):SF:=λY=>(c Y).bind λb=>if b=Â then f Y else g Y
def È (i:Nat)(f:EF):SF:=λY=>(f Y).bind λd=>U<|.nx<|Y.set i<|U d
def É (f:EF):SF:=λY=>(f Y).bind λd=>U<|.rt d
def ø:SF:=λ_=>U<|.rt .non
def ä (f:EF):SF:=λY=>(f Y).bind λ_=>U<|.nx Y
def Ø:SF:=λ_=>G
noncomputable def Bl:Nat:=2 ^ 9000
def sJ (c:BF)(b:SF):Nat->SF
 |0,_=>G
 |n+1,Y=>(c Y).bind λt=>if t=Â then(b Y).bind λo=>match o with
   |.nx ρ'=>sJ c b n ρ'
   |.ct ρ'=>sJ c b n ρ'
   |.bk ρ'=>U<|.nx ρ'
   |.rt d=>U<|.rt d
  else U (.nx Y)
def qX (c:BF)(b:SF):SF:=sJ c b Bl
def mn (g:D->Env->Option Env)(b:SF):List D->SF
 |[],Y=>U<|.nx Y
 |d::O,Y=>(g d Y).bind λρ1=>(b ρ1).bind λo=>match o with
   |.nx ρ'=>mn g b O ρ'
   |.ct ρ'=>mn g b O ρ'
   |.bk ρ'=>U<|.nx ρ'
   |.rt d=>U<|.rt d
def Ò (f:Env->Option (List D))(g:D->Env->Option Env)(b:SF):SF:=λY=>(f Y).bind λO=>mn g b O Y
variable {N:List Str}{P:eL}{bf u w:SF}{fi:Env->Option (List D)}{gg:D->Env->Option Env}{gs:List D->Env->Option Env}{iter tg:Expr}{j:Nat}{mg:Str->Option cJ}{pos':mR}{qual:Str}{Î Fl:List eo}{st:eo}{tw:List Expr}{ρ':Env}
theorem wb:wM X J S rk [] Ë:=⟨_,Mx,λF0 B F H Y Z o E rs e w=>by cases e;exact w Z F H rs⟩
theorem zc (h1:XS X J S rk st u)(h2:wM X J S rk Î w):wM X J S rk (st::Î) (Ç u w):=by
 obtain⟨t,pt,qt⟩:=h1;obtain⟨t2,vY,wB⟩:=h2;refine⟨_,L7 pt vY,λF0 B F H Y Z o E rs e z=>?_⟩;obtain⟨o1,e1,L⟩:=c9 e;refine qt F0 B F H Y Z o1 _ rs e1 ?_;cases o1 with
 |nx ρ'=>exactλσ' F' H' Lk=>wB F0 B F' H' ρ' σ' o E Lk L z
 |rt d=>cases L;exact z
 |bk ρ'=>cases L;exact z
 |ct ρ'=>cases L;exact z
theorem zh (h1:XS X J S rk st u):wM X J S rk [st] u:=by obtain⟨t,pt,qt⟩:=h1;exact⟨_,Hr pt,qt⟩
theorem xp:XS X J S rk st Ø:=⟨_,Zv,λF0 B F H Y Z o E rs e w=>by cases e⟩
theorem QA (he:XE X J S n e f)(hs:gk e G pos.line X.env=pure Ã:=by rfl):XS X J S rk (.Expr e pos) (ä f):=by obtain⟨t,pt,qt⟩:=he;refine⟨_,IT pt hs,λF0 B F H Y Z o E rs e w=>?_⟩;obtain⟨d,h1,h2⟩:=c9 e;cases h2;exact qt F0 B F H Y Z d _ rs h1 λv F' H' x l=>w Z F' H'<|rs.ext x
theorem xj (he:XO X J S rk e f):XS X J S rk (.Return (U e) pos) (É f):=by obtain⟨t,pt,qt⟩:=he;refine⟨_,u9 pt,λF0 B F H Y Z o E rs e w=>?_⟩;obtain⟨d,h1,h2⟩:=c9 e;cases h2;refine qt F0 B F H Y Z d _ rs h1 λv F' H' fp x l nd hf=>?_;have r:=rs.ext x;exact w v F' H' fp r.f0 r.bh r.fh r.nf l nd λz hz=>rs.bh.free<|hf z hz
theorem zt4 (hm:S[i]?=U (.ow rk))(hN:X.N[i]?=U x:=by rfl)(hv:rZ X.env.scope x:=by walk_at "v1")(hd:kW x:=by decide)
  (kT:sU x:=by decide):XS X J S rk (.Return (U<|.Name x pos') pos) (É<|M i):=by
 refine⟨_,u9<|xm hN hv hd kT,λF0 B F H Y Z o E rs e w=>?_⟩;obtain⟨d,h1,h2⟩:=c9 e;cases h2;obtain⟨fp,sl,nd,hb⟩:=rs.sl;obtain⟨f1,fr,i1,i2,i3,i4,i5⟩:=sl.put hm;obtain⟨v,CG,l⟩:=i4 d<|zp h1;exact⟨v,CG,w v F H f1 rs.f0 rs.bh rs.fh rs.nf l (i3 nd).1 λz hz=>hb z<|i1 z hz⟩
theorem FD {B8:List eo}(hc:XT X J S c p)(h1:wM X J S rk Fl u)(h2:wM X J S rk B8 w):XS X J S rk (.If c Fl B8 pos) (Ö p u w):=by
 obtain⟨t,pt,qt⟩:=hc;obtain⟨t1,zP,zQ⟩:=h1;obtain⟨t2,vY,wB⟩:=h2;refine⟨_,Ju pt zP vY,λF0 B F H Y Z o E rs e z=>?_⟩;obtain⟨x,h1,h2⟩:=c9 e;refine qt F0 B F H Y Z x _ rs h1 λF1 H1 x1=>?_;cases x with
 |true=>rw[if_pos rfl]at h2 ⊢;exact zQ F0 B F1 H1 Y Z o E (rs.ext x1) h2 z
 |false=>rw[if_neg cZ]at h2 ⊢;exact wB F0 B F1 H1 Y Z o E (rs.ext x1) h2 z
theorem RS.put {F' H':Hp}(rs:RS K J F0 B S F H Y Z)(hm:S[i]?=U (.ow k)) :
  ∃f1 fr:List cN,f1.Nodup/\(∀a∈f1,B a=G)/\(∀a∈f1,a∉fr)/\(∀d,Y[i]?=U (U d)->∃v,Z[i]?=U (U v)/\Ow K J F H k d v f1)/\(∀a∈fr,F a=G/\∃o,H a=U o/\oR o) /\
   ∀(F' H':Hp) (d':D) (v':V) (f':List cN),ej F F'->ej B H'->ej F' H'->(∀a o,B a=U o->oR o->F0 a=G->F' a=G)->(∀a∈fr,H' a=H a/\F' a=G)->Ow K J F' H' k d' v' f'->f'.Nodup->(∀a∈f',a∉fr)->(∀a∈f',B a=G) ->
    RS K J F0 B S F' H' (Y.set i<|U d') (Z.set i<|U v'):=by
 obtain⟨fp,sl,nd,hb⟩:=rs.sl;obtain⟨f1,fr,i1,i2,i3,i4,i5⟩:=sl.put hm;obtain⟨n1,n2,n3⟩:=i3 nd;refine⟨f1,fr,n1,λa z=>hb a<|i1 a z,n3,i4,λa z=>sl.cells a<|i2 a z,λF' H' d' v' f' s1 s2 s3 s4 kf o UG dj Gh=>?_⟩;obtain⟨kP,q1,q2,q3⟩:=i5 F' H' d' v' f' s1 kf o;exact⟨rs.f0.trans s1,s2,s3,s4,kP,q1,q3 UG n2 dj,λa z=>(q2 a z).elim (Gh a) λz=>hb a<|i2 a z⟩
theorem RS.set {v:V}(rs:RS K J F0 B S F H Y Z)(hm:S[i]?=U (.ow k))(x:kR F H F' H')(o:Ow K J F' H' k d v fp)(nd:fp.Nodup)(hf:∀a∈fp,H a=G) :
  RS K J F0 B S F' H' (Y.set i<|U d) (Z.set i<|U v):=by
 have r:=rs.ext x;obtain⟨f1,fr,n1,b1,n3,i4,cf,put⟩:=rs.put (F':=F') (H':=H') hm;refine put F' H' d v fp x.ff r.bh x.fh r.nf (λa z=>?_) o nd (λa z zb=>?_) λa z=>rs.bh.free<|hf a z
 ·obtain⟨hn,o,ho,nt⟩:=cf a z;exact⟨(x.hh _ _ ho).trans ho.symm,x.nf a o ho nt hn⟩
 ·obtain⟨hn,o,ho,nt⟩:=cf a zb;rw[hf a z]at ho;cases ho
theorem Ź (hm:S[i]?=U (.ow k))(hN:X.N.Nodup)(hi:X.N[i]?=U x)(hx:ë X.env.scope x)(he:XO X J S k e f)(hs:FR X e x pos' pos:=by rfl)
  (hf:uQ X x:=by walk_at "v2"):XS X J S rk (.Assign [.Name x pos'] e pos) (È i f):=by
 obtain⟨t,pt,qt⟩:=he;refine⟨_,Jf hN hi hx pt hs hf,λF0 B F H Y Z o E rs e w=>?_⟩;obtain⟨d,h1,h2⟩:=c9 e;cases h2;exact qt F0 B F H Y Z d _ rs h1 λv F' H' fp x l nd hf=>w _ F' H'<|rs.set hm x l nd hf
theorem ZP (hc:XT X J S c p)(hb:wM X J S rk Î u)(hp:lC (dz X.prog X.w) X.A X.env X.xe):XS X J S rk (.While c Î [] pos) (qX p u):=by
 obtain⟨t,pt,qt⟩:=hc;obtain⟨t1,zP,zQ⟩:=hb;refine⟨_,Zw hp pt zP,λF0 B F H Y Z o E rs e z=>?_⟩;refine⟨λm Z H=>∃F Y,RS X.K J F0 B S F H Y Z/\sJ p u m Y=U o,⟨Bl,F,Y,rs,e⟩,?_⟩;rintro m Z H ⟨F,Y,rs,e⟩;cases m with
 |zero=>cases e
 |succ m=>
  obtain⟨x,h1,h2⟩:=c9 e;refine qt F0 B F H Y Z x _ rs h1 λF1 H1 x1=>?_;cases x with
  |true=>
   rw[if_pos rfl]at h2 ⊢;obtain⟨o1,h3,h4⟩:=c9 h2;refine⟨λZ H=>∃F Y,RS X.K J F0 B S F H Y Z/\sJ p u m Y=U o,λσ' H' h=>⟨m,oy m,h⟩,?_⟩;refine zQ F0 B F1 H1 Y Z o1 _ (rs.ext x1) h3 ?_;cases o1 with
   |nx ρ'=>exactλσ' F' H' r=>⟨F',ρ',r,h4⟩
   |ct ρ'=>exactλσ' F' H' r=>⟨F',ρ',r,h4⟩
   |bk ρ'=>cases h4;exact z
   |rt d=>cases h4;exact z
  |false=>rw[if_neg cZ]at h2 ⊢;cases h2;exact z Z F1 H1<|rs.ext x1
theorem RS.re (r:RS K J F0 B S F H Y Z):RS K J F B S F H Y Z:=⟨.refl _,r.bh,r.fh,λ_ _ _ _ h=>h,r.sl⟩
theorem RS.back {σ':St}(r:RS K J F0 B S F H Y Z)(q:RS K J F B S F' H' ρ' σ'):RS K J F0 B S F' H' ρ' σ' :=
 ⟨r.f0.trans q.f0,q.bh,q.fh,λa o h t n=>q.nf a o h t<|r.nf a o h t n,q.sl⟩
theorem sW.re {E:sx}{o:ï}(r:RS K J F0 B S F H Y Z)(z:sW K J F0 B S rk E o):sW K J F B S rk E o:=by
 cases o with
 |nx Y=>exactλσ' F' H' q=>z σ' F' H'<|r.back q
 |bk Y=>exactλσ' F' H' q=>z σ' F' H'<|r.back q
 |ct Y=>exactλσ' F' H' q=>z σ' F' H'<|r.back q
 |rt d=>exactλv F' H' fp s1 s2 s3 s4=>z v F' H' fp (r.f0.trans s1) s2 s3 λa o h t n=>s4 a o h t<|r.nf a o h t n
def AD (K:cL)(J:Nat->cN)(F B:Hp)(n:Nat)(U':It)(O:List D):Prop :=
 ∀(i:Nat) (F' H':Hp),ej F F'->ej B H'->ej F' H'->(∀d,O[i]?=U d->U'.go i H'/\∀x H2,U'.yld i H' x H2->∃F2,kR F' H' F2 H2/\Al K J F2 B n d x)/\(O.length<=i->U'.stop i H')
def XI (X:Cx)(J:Nat->cN)(S:List Mo)(n:Nat)(tg iter:Expr)(f:Env->Option (List D)):Prop:=∃wi,PI X tg iter wi/\∀(F0 B F H:Hp) (Y:Env) (Z:St) (O:List D) (R:It->Hp->Prop),RS X.K J F0 B S F H Y Z->f Y=U O ->
 (∀U' F' H',kR F H F' H'->AD X.K J F' B n U' O->R U' H')->wi Z H R
def DY (X:Cx)(c:Prop)(J:Nat->cN)(S:List Mo)(n:Nat)(tg iter:Expr)(f:Env->Option (List D)):Prop:=∃wi,FQ X c tg iter wi/\∀(F0 B F H:Hp) (Y:Env) (Z:St) (O:List D) (R:It->Hp->Prop),RS X.K J F0 B S F H Y Z->f Y=U O ->
 (∀U' F' H',kR F H F' H'->AD X.K J F' H' n U' O->R U' H')->wi Z H R
abbrev Cm (X:Cx):=DY X<|X.calm=Â
def XG (X:Cx)(J:Nat->cN)(S:List Mo)(n:Nat)(tg:Expr)(g:D->Env->Option Env):Prop:=∃t,PG X tg t/\∀(F0 B F H:Hp) (Y ρ':Env) (Z:St) (d:D) (v:V) (Q:St->Hp->Prop),RS X.K J F0 B S F H Y Z->Al X.K J F B n d v->g d Y=U ρ' ->
 (∀σ',RS X.K J F0 B S F H ρ' σ'->Q σ' H)->t v Z H Q
theorem Ÿ (hi:XI X J S n tg iter fi)(hg:XG X J S n tg gg)(hb:wM X J S rk Î u)(hp:lC (dz X.prog X.w) X.A X.env X.xe)(hc:X.calm=Â)
  (hs:A0 X iter:=by intro _;rfl):XS X J S rk (.For tg iter Î [] pos) (Ò fi gg u):=by
 obtain⟨wi,pi,qi⟩:=hi;obtain⟨Ot,pg,qg⟩:=hg;obtain⟨t1,zP,zQ⟩:=hb;refine⟨_,Rq hp hc pi pg zP hs,λF0 B F H Y Z o E rs e z=>?_⟩;obtain⟨O,h1,h2⟩:=c9 e;refine qi F0 B F H Y Z O _ rs h1 λU' F1 H1 x1 ok=>?_;refine⟨λi m Z H=>m=O.length-i/\i<=O.length/\∃F Y,ej F1 F/\RS X.K J F0 B S F H Y Z/\mn gg u (O.drop i) Y=U o,⟨O.length,rfl,e8 _,F1,Y,.refl _,rs.ext x1,h2⟩,?_⟩;rintro i m Z H ⟨rfl,Fe,F,Y,s1,rs,e⟩;obtain⟨k1,k2⟩:=ok i F H s1 rs.bh rs.fh;by_cases tV:i<O.length
 ·right;have hd:O[i]?=U O[i]:=by simp[tV]
  obtain⟨go,yl⟩:=k1 _ hd;rw[hU tV]at e;obtain⟨ρ1,h3,h4⟩:=c9 e;obtain⟨o1,h5,h6⟩:=c9 h4;refine⟨go,λZ H=>i+1<=O.length/\∃F Y,ej F1 F/\RS X.K J F0 B S F H Y Z/\mn gg u (O.drop<|i+1) Y=U o,λσ' H' h=>⟨O.length-(i+1),by lia,rfl,h⟩,λx H2 y=>?_⟩;obtain⟨F2,x2,l⟩:=yl x H2 y;refine qg F0 B F2 H2 Y ρ1 Z _ x _ (rs.ext x2) l h3 λσ' r=>?_;have s2:=s1.trans x2.ff;refine zQ F2 B F2 H2 ρ1 σ' o1 _ r.re h5 ?_;cases o1 with
  |nx ρ'=>exactλσ' F' H' q=>⟨tV,F',ρ',s2.trans q.f0,r.back q,h6⟩
  |ct ρ'=>exactλσ' F' H' q=>⟨tV,F',ρ',s2.trans q.f0,r.back q,h6⟩
  |bk ρ'=>cases h6;exactλσ' F' H' q=>z σ' F' H'<|r.back q
  |rt d=>cases h6;exact sW.re (o:=.rt d) r z
 ·left;refine⟨k2<|by lia,?_⟩
  have:O.drop i=[]:=oP (by lia);rw[this]at e;cases e;exact z Z F H rs
def gV (i:Nat):D->Env->Option Env:=λd Y=>U<|Y.set i<|U d
theorem zt5 (hm:S[i]?=U (.ow 0))(hN:X.N.Nodup)(hi:X.N[i]?=U x)(hx:ë X.env.scope x)
  (hf:uQ X x:=by walk_at "v2"):XG X J S 0 (.Name x pos) (gV i):=by
 refine⟨_,IU hN hi hx hf,λF0 B F H Y ρ' Z d v Q rs l e w=>?_⟩;cases e;exact w _ (rs.set hm (.refl rs.fh) (Ow.zero l) dZ λa z=>(by cases z))
theorem SL.setA {v:V}(l:Al K J F B n d v)(h0:SL K J F B H S Y Z fp):S[i]?=U (.al n)->SL K J F B H S (Y.set i<|U d) (Z.set i<|U v) fp:=by
 induction h0 generalizing i with
 |nil=>intro e;simp at e
 |@no m0 o0 S Y Z fp t ih=>
  intro e;cases i with
  |zero=>simp at e;subst e;exact .al l t
  |succ i=>exact .no (ih<|by simpa using e)
 |@al n0 d0 v0 S Y Z fp h t ih=>
  intro e;cases i with
  |zero=>simp at e;subst e;exact .al l t
  |succ i=>exact .al h (ih<|by simpa using e)
 |@px d0 v0 S Y Z fp h t ih=>
  intro e;cases i with
  |zero=>simp at e
  |succ i=>exact .px h (ih<|by simpa using e)
 |@so d0 x0 S Y Z f0 F8 h t ih=>
  intro e;cases i with
  |zero=>simp at e
  |succ i=>exact .so h (ih<|by simpa using e)
 |@ow n0 d0 v0 S Y Z f0 F8 h t ih=>
  intro e;cases i with
  |zero=>simp at e
  |succ i=>exact .ow h (ih<|by simpa using e)
def HJ (X:Cx)(J:Nat->cN)(S:List Mo)(n:Nat)(tw:List Expr)(g:List D->Env->Option Env):Prop:=∃t,E1 X tw t/\(∀O Y ρ',g O Y=U ρ'->O.length=tw.length)/\∀(F0 B F H:Hp) (Y ρ':Env) (Z:St) (O:List D) (vs:List V) (Q:St->Hp->Prop),RS X.K J F0 B S F H Y Z->Pr (Al X.K J F B n) O vs->g O Y=U ρ' ->
 (∀σ',RS X.K J F0 B S F H ρ' σ'->Q σ' H)->t vs Z H Q
def Ù:List D->Env->Option Env:=λO Y=>match O with
 |[]=>U Y
 |_=>G
def Í (g:D->Env->Option Env)(gs:List D->Env->Option Env):List D->Env->Option Env:=λO Y=>match O with
 |d::O=>(g d Y).bind λρ'=>gs O ρ'
 |[]=>G
theorem Hu:HJ X J S n [] Ù:=by
 refine⟨_,Qy,λO Y ρ' e=>?_,λF0 B F H Y ρ' Z O vs Q rs l e w=>?_⟩
 ·cases O with
  |nil=>rfl
  |cons d O=>cases e
 ·cases l with
  |nil=>cases e;exact⟨rfl,w Z rs⟩
  |cons _ _=>cases e
theorem xw (h1:XG X J S n tg gg)(h2:HJ X J S n tw gs)
  (hs:(gx (tg::tw) X.env).map (·.2)=o8 tg X.env::(gx tw X.env).map (·.2):=by rfl):HJ X J S n (tg::tw) (Í gg gs):=by
 obtain⟨t,pt,qt⟩:=h1;obtain⟨t2,vY,GI,wB⟩:=h2;refine⟨_,PY pt vY hs,λO Y ρ' e=>?_,λF0 B F H Y ρ' Z O vs Q rs l e w=>?_⟩
 ·cases O with
  |nil=>cases e
  |cons d O=>obtain⟨ρ1,h3,h4⟩:=c9 e;rw[cX,cX,GI _ _ _ h4]
 ·cases l with
  |nil=>cases e
  |cons h t=>obtain⟨ρ1,h3,h4⟩:=c9 e;exact⟨_,_,rfl,qt F0 B F H Y ρ1 Z _ _ _ rs h h3 λσ1 r1=>wB F0 B F H ρ1 ρ' σ1 _ _ _ r1 t h4 w⟩
def gT (gs:List D->Env->Option Env):D->Env->Option Env:=λd Y=>match d with
 |.tup O=>gs O Y
 |_=>G
theorem Hz (hc:X.calm=Â)(h:HJ X J S (n-1) tw gs)(hl:(gx tw X.env).length=tw.length:=by rfl)(lE:(gx tw X.env).findIdx? (·.1)=G:=by rfl):XG X J S n (.Tuple tw j pos) (gT gs):=by
 obtain⟨t,pt,lt,qt⟩:=h;refine⟨_,Ro (n:=tw.length) hc pt hl lE,λF0 B F H Y ρ' Z d v Q rs l e w=>?_⟩;cases d with
 |tup O=>
  have l':Al X.K J F H n (.tup O) v:=l.mono (.refl _) rs.bh;have:∃a vs,v=.ref a/\pX X.K H a vs/\Pr (Al X.K J F B<|n-1) O vs:=by
   cases n with
   |zero=>
    have l:Dt X.K J F (.tup O) v:=l;cases l with
    |tup q t=>exact⟨_,_,rfl,pX.of<|rs.fh _ _ q,t.pr⟩
   |succ n=>
    rcases l with l|l
    ·cases l with
     |tup q t=>exact⟨_,_,rfl,pX.of<|rs.fh _ _ q,t.pr.mono λ_ _=>Al.of⟩
    ·cases l with
     |tup q t=>exact⟨_,_,rfl,pX.of<|rs.fh _ _ q,t⟩
  obtain⟨a,vs,rfl,ha,hp⟩:=this;exact⟨a,vs,rfl,ha,hp.length.symm.trans<|lt _ _ _ e,qt F0 B F H Y ρ' Z O vs Q rs hp e w⟩
 |_=>cases e
def Ú (N:List Str)(O:List D):Env:=O.map U++cY (N.length-O.length) G
def Ï (N:List Str)(b:SF)(O:List D):Option D:=(b<|Ú N O).bind λo=>match o with
 |.rt d=>U d
 |.nx _=>U .non
 |_=>G
theorem SL.start {K:cL}{F B H:Hp}:∀{pm:List Nat} {O:List D} {vs:List V} {S:List Mo} (j:Nat),pq K J F B pm O vs->(∀(i n:Nat),pm[i]?=U n->S[i]?=U (Mo.al n)\/(n=0/\S[i]?=U (Mo.ow 0)))->S.length=pm.length+j ->
  SL K J F B H S (O.map U++cY j G) (vs.map U++cY j G) []
 |_,_,_,S,j,.nil,_,hl=>by
  have:∀(j:Nat) (S:List Mo),S.length=j->SL K J F B H S (cY j G) (cY j G) []:=by
   intro j;induction j with
   |zero=>intro S h;cases S with
    |nil=>exact .nil
    |cons _ _=>simp at h
   |succ j ih=>intro S h;cases S with
    |nil=>simp at h
    |cons m S=>exact .no (ih S<|by simpa using h)
  simpa using this j S (by simpa using hl)
 |_,_,_,[],j,.cons h t,_,hl=>by simp at hl;lia
 |_,_,_,m::S,j,.cons (n:=n) h t,hm,hl=>by
  have ih:=SL.start (S:=S) (H:=H) j t (λi n e=>by simpa using hm (i+1) n (by simpa using e)) (by simp at hl;lia);rcases hm 0 n rfl with e|⟨rfl,e⟩
  ·simp at e;subst e;exact .al h ih
  ·simp at e;subst e;exact SL.ow (f:=[]) (Ow.zero h) ih
structure ì (K:cL)(x qual:Str)(st:eo)(f:cN)(fd:cT):Prop where
 ex:∃(oc:cJ) (od:Option cN) (dV kV doc pm:cJ) (an:Option cN) (kO J:cJ) (CO:Array<|Option cJ),
  fd=nX x qual (mj st) (iT st) (dS st) dV kV doc pm an kO J/\K.lookup f=U ⟨oc,od,.func fd,CO⟩/\tN K kO qual=Â
 kp:fU K (.ref f)=Â
theorem ì.ok {w:d8}{base:c7}{f:cN}{fd:cT}{sp:Sp}(F:ì K x qual st f fd)(W':gq N ps<|dS st)(len:∀vs H Q E,sp vs H Q E->vs.length=ps.length)
    (Bt:∀(kO:cJ) (A:d6) (outer:List PySem.Env) (s:cU) (H:Hp) (vs:List V) (Q:VK) (E:XK),gu k (A.deeper<|envOfC qual (dS st) s.heap.objs.size f kO)->sp vs H Q E ->
      ∃t,yU (tU fQ P w K mg base N qual (dS st) f kO A outer s H E).nox (iT st) t/\t { nx:=λ_ H'=>Q .non H',rt:=Q } (L2.start N vs) H):dR P w K mg base fQ (k+1) f fd ps sp:=by
  obtain⟨oc,od,dV,kV,doc,pm,an,kO,J,CO,rfl,lk,kT⟩:=F.ex;refine Ķ lk kT W' len λA outer s H vs Q E hr Dx=>?_;obtain⟨t,h,q⟩:=Bt kO A outer s H vs Q E hr Dx;exact⟨t,h.nox,q⟩
theorem ğ {w:d8}{base:c7}{fd:cT}(Fn:ì K x qual st fa fd)(W':gq N ps<|dS st)(CA:pm.length=ps.length)(Du:S.length=N.length)(uT:ps.length<=N.length)
  (D9:∀(i n:Nat),pm[i]?=U n->S[i]?=U (Mo.al n)\/(n=0/\S[i]?=U (Mo.ow 0)))
  (body:∀(kO:cJ) (A:d6) (outer:List PySem.Env) (s:cU) (H:Hp) (E:XK),gu kk (A.deeper<|envOfC qual (dS st) s.heap.objs.size fa kO)->wM (tU fQ P w K mg base N qual (dS st) fa kO A outer s H E).nox J S rk (iT st) bf) :
  dR P w K mg base fQ (kk+1) fa fd ps (iP K J pm rk<|Ï N bf):=by
 refine Fn.ok W' (iP.len CA) λkO A outer s H vs Q E hr h=>?_;obtain⟨F,O,d,sF,l,hm,q⟩:=h;obtain⟨t,pt,qt⟩:=body kO A outer s H E hr;refine⟨t,pt,?_⟩;obtain⟨o,h1,h2⟩:=c9 hm;have hvl:vs.length=pm.length:=l.length;have D7:O.length=vs.length:=l.length';refine qt F H F H (Ú N O) (L2.start N vs) o _ ⟨.refl _,.refl _,sF,λ_ _ _ _ h=>h,[],?_,dZ,λa z=>(by cases z)⟩ h1 ?_
 ·unfold Ú L2.start;rw[D7];exact SL.start _ l D9 (by lia)
 ·cases o with
  |nx Y=>cases h2;exactλZ F' H' r=>q .non F' H' [] ⟨r.f0,r.bh,r.fh,r.nf⟩ (Ow.scal .non rfl) dZ λa z=>(by cases z)
  |rt d'=>cases h2;exactλv F' H' fp s1 s2 s3 s4 o nd hf=>q v F' H' fp ⟨s1,s2,s3,s4⟩ o nd hf
  |bk Y=>cases h2
  |ct Y=>cases h2
theorem lU.or {f:cJ->cJ->uP cJ}{r':R2}(h:lU X f r)(h':lU X f r'):lU X f (λx y H Q=>r x y H Q\/r' x y H Q) :=
 λcM s Z H x y v u Q I rx ry q=>q.elim (h cM s Z H x y v u Q I rx ry)<|h' cM s Z H x y v u Q I rx ry
variable {gv:Int->Int->V}{neg:Bool}
def i2 (g:Int->Int->D):D->D->Option D
 |.int i,.int j=>U<|g i j
 |_,_=>G
def BA (KK:Int->Int->Prop)[∀i j,Decidable<|KK i j](g:Int->Int->D):D->D->Option D
 |.int i,.int j=>if KK i j then U (g i j)else G
 |_,_=>G
theorem Jy {g:Int->Int->D}(hg:∀i j F,Dt K J F (g i j)<|gv i j):sV K J n m k (yH gv) (i2 g):=by
 intro F H x y d1 d2 d Q s l1 l2 e w;cases d1 with
 |int i=>
  cases d2 with
  |int j=>cases e;exact⟨i,j,l1.int,l2.int,w _ F H (.refl s)<|Al.of<|hg i j F⟩
  |_=>cases e
 |_=>cases e
theorem Jo {KK C':Int->Int->Prop}[∀i j,Decidable<|KK i j]{g:Int->Int->D}(hC:∀i j,KK i j->C' i j)(hg:∀i j F,Dt K J F (g i j)<|gv i j):sV K J n m k (rI C' gv) (BA KK g):=by
 intro F H x y d1 d2 d Q s l1 l2 e w;cases d1 with
 |int i=>
  cases d2 with
  |int j=>
   unfold BA at e;dsimp only at e;by_cases h:KK i j
   ·rw[if_pos h]at e;cases e;exact⟨i,j,l1.int,l2.int,hC i j h,w _ F H (.refl s)<|Al.of<|hg i j F⟩
   ·rw[if_neg h]at e;cases e
  |_=>cases e
 |_=>cases e
noncomputable def Nf:Nat:=2 ^ 9000
noncomputable def FG:Nat:=2 ^ 100000
def kx:D->D->Option D:=i2 λi j=>.int<|i-j
theorem zt6:sV K J n m k (yH λi j=>.int<|i-j) kx:=Jy λ_ _ _=>.int _
def sY (i j:Int):Prop:=(-18446744073709551616<i/\i<18446744073709551616)\/(-18446744073709551616<j/\j<18446744073709551616)\/(i.natAbs<FG/\j.natAbs<FG)
instance (i j:Int):Decidable (sY i j):=by unfold sY;infer_instance
def jY:D->D->Option D:=BA sY λi j=>.int<|i*j
theorem sY.ok {i j:Int}(h:sY i j):vE i j:=by
 rcases h with h|h|h
 ·exact .inl (.inl ⟨by have:=h.1;lia,by have:=h.2;lia⟩)
 ·exact .inl (.inr ⟨by have:=h.1;lia,by have:=h.2;lia⟩)
 ·exact .inr h
theorem zt7:sV K J n m k (rI vE λi j=>.int<|i*j) jY:=Jo (λ_ _=>sY.ok) λ_ _ _=>.int _
def D.v:D->V
 |.bl b=>.bl b
 |.int i=>.int i
 |.str x=>.str x
 |_=>.non
theorem Dt.v {v:V}(h:Dt K J F d v)(hs:d.sc=Â):v=d.v:=by cases h<;>first|rfl|cases hs
theorem Al.v {v:V}(h:Al K J F V' n d v)(hs:d.sc=Â):v=d.v:=Dt.v (Al.scal (F':=F) h hs) hs
theorem D.flat (hs:d.sc=Â):nQ d.v=Â:=by cases d<;>first|rfl|cases hs
theorem Pr.vs {F V':Hp}:∀{O:List D} {vs:List V},Pr (Al K J F V' n) O vs->O.all D.sc=Â->vs=O.map D.v
 |_,_,.nil,_=>rfl
 |d::O,v::vs,.cons h t,e=>by rw[gJ,dE]at e;rw[dC,Al.v h e.1,Pr.vs t e.2]
def iD:D->D->Option D
 |.int i,.int j=>if 0<j/\j<4611686018427387904 then U (.int<|i/j)else if j≠0/\j.natAbs<Nf then U (.int<|i.fdiv j)else G
 |_,_=>G
theorem ZQ:sV K J n m k (rI (λ_ j=>j≠0/\Sz 9000 j) λi j=>.int<|i.fdiv j) iD:=by
 intro F H x y d1 d2 d Q s l1 l2 e w;cases d1 with
 |int i=>
  cases d2 with
  |int j=>
   unfold iD at e;dsimp only at e;by_cases h:0<j/\j<4611686018427387904
   ·rw[if_pos h]at e;cases e;refine⟨i,j,l1.int,l2.int,⟨by lia,?_⟩,?_⟩
    ·have:Sz 62 j:=by unfold Sz;lia
     exact this.mono (by decide)
    ·show Q (.int<|i.fdiv j) H;rw[vB i<|by lia];exact w _ F H (.refl s)<|Al.of<|.int _
   ·rw[if_neg h]at e;by_cases h:j≠0/\j.natAbs<Nf
    ·rw[if_pos h]at e;cases e;exact⟨i,j,l1.int,l2.int,h,w _ F H (.refl s)<|Al.of<|.int _⟩
    ·rw[if_neg h]at e;cases e
  |_=>cases e
 |_=>cases e
def iA:D->D->Option D
 |.int i,.int j=>if 0<j then U (.int<|i%j)else if j≠0 then U (.int<|i.fmod j)else G
 |_,_=>G
theorem zt8:sV K J n m k (rI (λ_ j=>j≠0) λi j=>.int<|i.fmod j) iA:=by
 intro F H x y d1 d2 d Q s l1 l2 e w;cases d1 with
 |int i=>
  cases d2 with
  |int j=>
   unfold iA at e;dsimp only at e;by_cases h:0<j
   ·rw[if_pos h]at e;cases e;refine⟨i,j,l1.int,l2.int,by lia,?_⟩;show Q (.int<|i.fmod j) H;rw[Int.fmod_eq_emod_of_nonneg i<|by lia];exact w _ F H (.refl s)<|Al.of<|.int _
   ·rw[if_neg h]at e;by_cases h:j≠0
    ·rw[if_pos h]at e;cases e;exact⟨i,j,l1.int,l2.int,h,w _ F H (.refl s)<|Al.of<|.int _⟩
    ·rw[if_neg h]at e;cases e
  |_=>cases e
 |_=>cases e
def vL (i j:Int):Prop:=0<=j/\j<=1000000/\i.natAbs<18446744073709551616
instance (i j:Int):Decidable (vL i j):=by unfold vL;infer_instance
def oY:D->D->Option D:=BA vL λi j=>.int<|i ^ j.toNat
theorem jz:sV K J n m k (rI Ci λi j=>.int<|i ^ j.toNat) oY:=Jo (λ_ _ h=>⟨h.1,h.2.1,by have:=h.2.2;lia⟩) λ_ _ _=>.int _
def CV:D->D->Option D:=BA vL λi j=>.int<|i*2 ^ j.toNat
theorem zt9:sV K J n m k (rI Ci λi j=>.int<|i*2 ^ j.toNat) CV:=Jo (λ_ _ h=>⟨h.1,h.2.1,by have:=h.2.2;lia⟩) λ_ _ _=>.int _
def AQ:D->D->Option D:=BA (λ_ j=>0<=j) λi j=>.int<|i/2 ^ j.toNat
theorem QB:sV K J n m k (rI (λ_ j=>0<=j) λi j=>.int<|i/2 ^ j.toNat) AQ:=Jo (λ_ _ h=>h) λ_ _ _=>.int _
def wQ:D->D->Option D:=i2 λi j=>.bl<|decide<|i<j
def uL:D->D->Option D:=i2 λi j=>.bl<|decide<|j<i
def E9:D->D->Option D:=i2 λi j=>.bl<|decide<|j<=i
theorem ŷ:sV K J n m k (yH λi j=>.bl<|decide<|i<j) wQ:=Jy λ_ _ _=>.bl _
theorem Rk:sV K J n m k (yH λi j=>.bl<|decide<|j<i) uL:=Jy λ_ _ _=>.bl _
theorem Ŷ:sV K J n m k (yH λi j=>.bl<|decide<|j<=i) E9:=Jy λ_ _ _=>.bl _
def EE:R2:=λx y H Q=>∃i j,x=.str i/\y=.str j/\Q (.bl<|!(decide<|j.cps.toList<i.cps.toList)) H
theorem ŵ:lU X (eX .LtE) EE:=by intro cM s Z H x y v u Q I rx ry h;obtain⟨i,j,rfl,rfl,q⟩:=h;obtain⟨t,rfl⟩:=rx;obtain⟨t',rfl⟩:=ry;exact PySem.P.le_str ⟨.bl _,H,I,rfl,q⟩
def vV:D->D->Option D
 |.int i,.int j=>U<|.bl<|decide<|i<=j
 |.str i,.str j=>U<|.bl<|!(decide<|j.cps.toList<i.cps.toList)
 |_,_=>G
theorem QC:sV K J n m k (λx y H Q=>yH (λi j=>.bl<|decide<|i<=j) x y H Q\/EE x y H Q) vV:=by
 intro F H x y d1 d2 d Q s l1 l2 e w;cases d1 with
 |int i=>
  cases d2 with
  |int j=>cases e;exact .inl ⟨i,j,l1.int,l2.int,w _ F H (.refl s)<|Al.of<|.bl _⟩
  |_=>cases e
 |str i=>
  cases d2 with
  |str j=>cases e;exact .inr ⟨i,j,l1.str,l2.str,w _ F H (.refl s)<|Al.of<|.bl _⟩
  |_=>cases e
 |_=>cases e
theorem Rx:lU X (eX .LtE) (λx y H Q=>yH (λi j=>.bl<|decide<|i<=j) x y H Q\/EE x y H Q):=lU.or ĸ ŵ
def D.isN:D->Bool
 |.non=>Â
 |_=>Ã
def D.isB (b:Bool):D->Bool
 |.bl c=>c==b
 |_=>Ã
def qM (neg:Bool):D->D->Option D
 |d,.non=>U<|.bl<|if neg then !d.isN else d.isN
 |d,.bl b=>U<|.bl<|if neg then !d.isB b else d.isB b
 |_,_=>G
theorem Al.ref {v:V}(h:Al K J F V' n d v)(hs:d.sc=Ã):∃a,v=.ref a:=by
 cases n with
 |zero=>cases(show Dt K J F d v from h)<;>first|cases hs;done|exact⟨_,rfl⟩
 |succ n=>rcases h with h|h<;>cases h<;>first|cases hs;done|exact⟨_,rfl⟩
theorem Al.isn {v:V}(h:Al K J F V' n d v):decide (v=.non)=d.isN:=by
 cases hs:d.sc with
 |true=>have:=Al.v h hs;subst this;cases d<;>first|rfl|cases hs
 |false=>obtain⟨a,rfl⟩:=h.ref hs;cases d<;>first|rfl|cases hs
theorem Al.isb {v:V}{b:Bool}(h:Al K J F V' n d v):decide (v=.bl b)=d.isB b:=by
 cases hs:d.sc with
 |true=>have:=Al.v h hs;subst this;cases d<;>first|rfl|(cases hs;done)|(rename_i c;cases b<;>cases c<;>rfl)
 |false=>obtain⟨a,rfl⟩:=h.ref hs;cases d<;>first|rfl|cases hs
def Oc:R2:=λx y H Q=>(y=.non/\Q (.bl<|decide<|x=.non) H)\/∃b,y=.bl b/\Q (.bl<|decide<|x=.bl b) H
def BL:R2:=λx y H Q=>(y=.non/\Q (.bl<|!decide (x=.non)) H)\/∃b,y=.bl b/\Q (.bl<|!decide (x=.bl b)) H
theorem Ŏ:lU X (eX .Is) Oc:=lU.or Ν ϗ
theorem Zl:lU X (eX .IsNot) BL:=lU.or ztb YQ
theorem Ŵ:sV K J n m k Oc (qM Ã):=by
 intro F H x y d1 d2 d Q s l1 l2 e w;cases d2 with
 |non=>cases e;refine .inl ⟨l2.non,?_⟩;rw[l1.isn];exact w _ F H (.refl s)<|Al.of<|.bl _
 |bl b=>cases e;refine .inr ⟨b,l2.bl,?_⟩;rw[l1.isb];exact w _ F H (.refl s)<|Al.of<|.bl _
 |_=>cases e
theorem YH:sV K J n m k BL (qM Â):=by
 intro F H x y d1 d2 d Q s l1 l2 e w;cases d2 with
 |non=>cases e;refine .inl ⟨l2.non,?_⟩;rw[l1.isn];exact w _ F H (.refl s)<|Al.of<|.bl _
 |bl b=>cases e;refine .inr ⟨b,l2.bl,?_⟩;rw[l1.isb];exact w _ F H (.refl s)<|Al.of<|.bl _
 |_=>cases e
mutual
def D.py:D->Option dD
 |.non=>U .none
 |.bl b=>U<|.bool b
 |.int i=>U<|.int i
 |.str x=>U<|.str x
 |.lst xs=>(D.pys xs).bind λys=>U<|.list ys
 |.tup xs=>(D.pys xs).bind λys=>U<|.tuple ys
 |_=>G
def D.pys:List D->Option (List dD)
 |[]=>U []
 |d::O=>(D.py d).bind λx=>(D.pys O).bind λxs=>U (x::xs)
end
theorem Dt.toPy (s:ej F H){v:V}{e:dD}(h:Dt K J F d v)(q:d.py=U e):L2.Dt K H v e:=by
 refine Dt.rec (motive_1:=λd v _=>∀e,d.py=U e->L2.Dt K H v e) (motive_2:=λO vs _=>∀es,D.pys O=U es->L2.â K H vs es) ?_ ?_ ?_ ?_ ?_ ?_ ?_ ?_ ?_ ?_ ?_ ?_ ?_ ?_ ?_ h e q
 ·intro e h;rw[D.py]at h;cases h;exact .non
 ·intro b e h;rw[D.py]at h;cases h;exact .bl b
 ·intro b e h;rw[D.py]at h;cases h;exact .int b
 ·intro b e h;rw[D.py]at h;cases h;exact .str b
 ·intro _ _ _ q _ t e h;rw[D.py]at h;obtain⟨ys,h1,h2⟩:=c9 h;cases h2;exact .lst (s.seq q)<|t _ h1
 ·intro _ _ _ q _ t e h;rw[D.py]at h;obtain⟨ys,h1,h2⟩:=c9 h;cases h2;exact .tup (pX.of<|s _ _ q)<|t _ h1
 ·intro _ _ _ _ _ _ _ _ e h;simp only[D.py]at h;cases h
 ·intro _ _ _ _ _ _ _ _ e h;simp only[D.py]at h;cases h
 ·intro _ _ _ _ _ _ _ _ _ _ e h;simp only[D.py]at h;cases h
 ·intro _ _ _ _ e h;simp only[D.py]at h;cases h
 ·intro _ _ _ _ _ _ _ _ _ _ _ _ e h;simp only[D.py]at h;cases h
 ·intro _ _ _ _ _ _ e h;simp only[D.py]at h;cases h
 ·intro _ _ e h;simp only[D.py]at h;cases h
 ·intro e h;rw[D.pys]at h;cases h;exact .nil
 ·intro _ _ _ _ _ _ p t e h;rw[D.pys]at h;obtain⟨y,ys,h1,h2,h3⟩:=fu h;cases h3;exact .cons (p _ h1)<|t _ h2
theorem Pr.toPy (f:∀d v e,R d v->d.py=U e->L2.Dt K H v e){vs:List V}{es:List dD}(h:Pr R O vs)(e:D.pys O=U es):L2.â K H vs es:=by
 induction h generalizing es with
 |nil=>rw[D.pys]at e;cases e;exact .nil
 |cons h t ih=>rw[D.pys]at e;obtain⟨y,ys,h1,h2,h3⟩:=fu e;cases h3;exact .cons (f _ _ _ h h1)<|ih h2
theorem Al.toPy (s:ej F H){v:V}{e:dD}(h:Al K J F H n d v)(q:d.py=U e):L2.Dt K H v e:=by
 induction n generalizing d v e with
 |zero=>exact Dt.toPy s h q
 |succ n ih=>
  cases h with
  |inl h=>exact Dt.toPy s h q
  |inr h=>
   cases h with
   |lst h t=>rw[D.py]at q;obtain⟨ys,h1,h2⟩:=c9 q;cases h2;exact .lst (iE.of h)<|Pr.toPy (λ_ _ _=>ih) t h1
   |tup h t=>rw[D.py]at q;obtain⟨ys,h1,h2⟩:=c9 q;cases h2;exact .tup (pX.of<|s _ _ h)<|Pr.toPy (λ_ _ _=>ih) t h1
   |_=>simp only[D.py]at q;cases q
noncomputable def vZ (a:dD):Bool:=a.canLay0&&decide (a.depth<=60)
def iI (neg:Bool)(x y:D):Option D:=x.py.bind λa=>y.py.bind λb=>if vZ a=Â/\vZ b=Â then U (.bl<|if neg then !dD.eqv a b else dD.eqv a b)else G
theorem vq:sV K J n m k (EC K neg) (iI neg):=by
 intro F H x y d1 d2 d Q s l1 l2 e w;obtain⟨a,b,h1,h2,h3⟩:=fu e;by_cases h:vZ a=Â/\vZ b=Â
 ·rw[if_pos h]at h3;cases h3;have o1:=h.1;have o2:=h.2;unfold vZ at o1 o2;rw[dE,decide_eq_true_iff]at o1 o2;exact⟨a,b,Al.toPy s l1 h1,Al.toPy s l2 h2,o1.1,o2.1,eQ (Nat.min_le_left _ _) o1.2,w _ F H (.refl s)<|Al.of<|.bl _⟩
 ·rw[if_neg h]at h3;cases h3
variable {κ:Type}{eY:mR}
theorem Pr.atI {vs:List V}{i:Int}(h:Pr R O vs)(e:atI O i=U d):∃v,atI vs i=U v/\R d v:=by unfold L2.atI at e ⊢;rw[←h.length];obtain⟨j,h1,h2⟩:=c9 e;obtain⟨v,h3,h4⟩:=h.get' h2;exact⟨v,by rw[h1];exact h3,h4⟩
def CK:D->Option kL
 |.int i=>U<|.inl i
 |.str x=>U<|.inr x
 |_=>G
def xO:List D->Option (List kL)
 |[]=>U []
 |d::O=>(CK d).bind λk=>(xO O).bind λks=>U (k::ks)
noncomputable def qD [DecidableEq κ](ks:List κ)(O:List D)(k:κ):Option D:=((ks.zip O).find? λp=>decide<|p.1=k).map (·.2)
def RO (R:D->V->Prop):Option D->Option V->Prop
 |some d,U u=>R d u
 |none,G=>True
 |_,_=>False
theorem RO.some_of {q:Option V}(h:RO R (U d) q):∃u,q=U u/\R d u:=by
 cases q with
 |none=>exact h.elim
 |some u=>exact⟨u,rfl,h⟩
theorem RO.none_of {q:Option V}(h:RO R G q):q=G:=by
 cases q with
 |none=>rfl
 |some u=>exact h.elim
theorem LS {κ:Type}[DecidableEq κ]{R:D->V->Prop}{k:κ}:∀{ks:List κ} {O:List D} {vs:List V},Pr R O vs->RO R (qD ks O k) (ox (ks.zip vs) k)
 |[],_,_,_=>by simp[qD,ox,RO]
 |_::_,_,_,.nil=>by simp[qD,ox,RO]
 |y::ks,d::O,v::vs,.cons h t=>by
  by_cases e:y=k
  ·have h1:qD (y::ks) (d::O) k=U d:=by simp[qD,fE,e]
   have h2:ox ((y::ks).zip (v::vs)) k=U v:=by simp[ox,fE,e]
   rw[h1,h2];exact h
  ·have h1:qD (y::ks) (d::O) k=qD ks O k:=by simp[qD,fE,e]
   have h2:ox ((y::ks).zip (v::vs)) k=ox (ks.zip vs) k:=by simp[ox,fE,e]
   rw[h1,h2];exact LS t
theorem MY {v:V}{k:kL}(e:CK d=U k)(h:Al K J F V' n d v):v=kV k:=by
 cases d with
 |int i=>cases e;exact h.int
 |str i=>cases e;exact h.str
 |_=>cases e
theorem QK {vs:List V}(e:xO O=U ks)(h:Pr (Al K J F V' n) O vs):vs=ks.map kV:=by
 induction h generalizing ks with
 |nil=>cases e;rfl
 |cons h t ih=>unfold xO at e;obtain⟨k,ks,h1,h2,h3⟩:=fu e;cases h3;rw[MY h1 h,ih h2];rfl
def lN (o y:D):Option (Option D):=match o with
 |.dK ks O=>(CK y).bind λk=>U<|qD ks O k
 |.dT ks O=>(match y with|.tup ys=>(xO ys).bind λk=>U (qD ks O k)|_=>G)
 |_=>G
theorem IS {o y:D}{x v:V}(s:ej F V')(l1:Al K J F V' n o x)(l2:Al K J F V' m y v){r:Option D}(e:lN o y=U r) :
  ∃a q,x=.ref a/\sv V' a v q/\EZ V' a/\RO (Al K J F V'<|n-1) r q:=by
 cases o with
 |dK ks O=>obtain⟨a,vs,rfl,ha,hl,hp⟩:=l1.dK s;obtain⟨k,h1,h2⟩:=c9 e;cases h2;have hv:=MY h1 l2;subst hv;exact⟨a,_,rfl,sv.k ha,.inl ⟨_,.inl ha⟩,LS hp⟩
 |dT ks O=>
  obtain⟨a,vs,rfl,ha,hl,hp⟩:=l1.dT s;cases y with
  |tup ys=>obtain⟨k,h1,h2⟩:=c9 e;cases h2;obtain⟨b,us,rfl,hb,Kw⟩:=l2.tup s;have hv:=QK h1 Kw;subst hv;exact⟨a,_,rfl,.inr ⟨_,_,_,ha,rfl,hb,rfl⟩,.inr ⟨_,ha⟩,LS hp⟩
  |_=>cases e
 |_=>cases e
def eG:D->D->Option D
 |.lst O,.int i=>atI O i
 |.tup O,.int i=>atI O i
 |.kt O,.int i=>atI O i
 |.str x,.int i=>if x.length<=16777216 then(atI x.cps.toList i).bind λc=>U (.str ⟨#[c]⟩)else G
 |_,_=>G
theorem EU:sV K J n m (n-1) (Od K) eG:=by
 intro F H x y d1 d2 d Q s l1 l2 e w;cases d1 with
 |lst O=>
  cases d2 with
  |int i=>obtain⟨a,vs,rfl,ha,hp⟩:=l1.lst s;obtain⟨v,h1,h2⟩:=hp.atI e;exact .inl ⟨a,vs,i,v,rfl,l2.int,ha,h1,w v F H (.refl s) h2⟩
  |_=>cases e
 |tup O=>
  cases d2 with
  |int i=>obtain⟨a,vs,rfl,ha,hp⟩:=l1.tup s;obtain⟨v,h1,h2⟩:=hp.atI e;exact .inr<|.inl ⟨a,vs,i,v,rfl,l2.int,pX.of ha,h1,w v F H (.refl s) h2⟩
  |_=>cases e
 |kt O=>
  cases d2 with
  |int i=>obtain⟨a,vs,rfl,ha,hp⟩:=l1.kt;obtain⟨v,h1,h2⟩:=hp.atI e;exact .inr<|.inl ⟨a,vs,i,v,rfl,l2.int,.inr ha,h1,w v F H (.refl s)<|Al.of h2⟩
  |_=>cases e
 |str z=>
  cases d2 with
  |int i=>
   unfold eG at e;dsimp only at e;by_cases h:z.length<=16777216
   ·rw[if_pos h]at e;obtain⟨c,h1,h2⟩:=c9 e;cases h2;exact .inr (.inr ⟨z,i,c,l1.str,l2.int,by rw[dW];exact h,h1,w _ F H (.refl s)<|Al.of<|.str _⟩)
   ·rw[if_neg h]at e;cases e
  |_=>cases e
 |_=>cases e
theorem Ry (hu:X.A.units+1<lS)(ha:XE X J S n a f)(hb:XE X J S m b g)(hs:yS b):XE X J S (n-1) (.Subscript a b pos) (λY=>(f Y).bind λx=>(g Y).bind λy=>(lN x y).join):=by obtain⟨ta,tb,pa,pb,q⟩:=ha.bin hb;refine⟨_,ztn hu pa pb hs,λF0 B F H Y Z d Q rs e w=>?_⟩;obtain⟨d1,d2,h1,h2,h3⟩:=fu e;refine q F0 B F H Y Z d1 d2 _ rs h1 h2 λx y F' H' x1 l1 l2=>?_;obtain⟨a,o,rfl,g,_,h⟩:=IS (r:=some d) x1.fh l1 l2<|zp h3;obtain⟨u,rfl,B4⟩:=h.some_of;exact⟨a,u,rfl,g,w u F' H' x1 B4⟩
theorem QL (hu:X.A.units+1<lS)(ho:XE X J S n o f)(he:XE X J S m e g)(h1:M1 X o "get" fL e eY):XE X J S (n-1) (.Call (.Attribute o "get" fL) [e] [] eY) (λY=>(f Y).bind λx=>(g Y).bind λy=>(lN x y).bind λr=>U<|r.getD .non):=by
 obtain⟨ta,pa,qa⟩:=ho;obtain⟨tb,pb,qb⟩:=he;refine⟨_,ZH hu pa pb h1,λF0 B F H Y Z d Q rs e w=>?_⟩;obtain⟨d1,d2,e1,L,e3⟩:=fu e;obtain⟨r,e4,e5⟩:=c9 e3;cases e5;refine qa F0 B F H Y Z d1 _ rs e1 λx F1 H1 x1 l1=>?_;have:∃a,x=.ref a/\EZ H1 a:=by
  cases d1 with
  |dK ks O=>obtain⟨a,vs,rfl,ha,_⟩:=l1.dK x1.fh;exact⟨a,rfl,.inl ⟨_,.inl ha⟩⟩
  |dT ks O=>obtain⟨a,vs,rfl,ha,_⟩:=l1.dT x1.fh;exact⟨a,rfl,.inr ⟨_,ha⟩⟩
  |_=>cases e4
 obtain⟨a,rfl,KU⟩:=this;refine⟨a,rfl,KU,qb F0 B F1 H1 Y Z d2 _ (rs.ext x1) L λy F2 H2 x2 l2=>?_⟩;obtain⟨a',o,ea,gg,_,h⟩:=IS (r:=r) x2.fh (l1.mono x2.ff x2.hh) l2 e4;cases ea;refine⟨o,gg,?_⟩;cases r with
 |none=>rw[h.none_of];exact w _ F2 H2 (x1.trans x2)<|Al.of .non
 |some d=>obtain⟨u,rfl,B4⟩:=h.some_of;exact w _ F2 H2 (x1.trans x2) B4
theorem zua {z:Expr}(hu:X.A.units+1<lS)(ho:XE X J S n o f)(he:XE X J S m e g)(hz:XE X J S (n-1) z h)(h1:M2 X o "get" fL e z eY):XE X J S (n-1) (.Call (.Attribute o "get" fL) [e,z] [] eY) (λY=>(f Y).bind λx=>(g Y).bind λy=>(h Y).bind λz=>(lN x y).bind λr=>U<|r.getD z):=by
 obtain⟨ta,pa,qa⟩:=ho;obtain⟨tb,pb,qb⟩:=he;obtain⟨tc,pc,qc⟩:=hz;refine⟨_,ZI hu pa pb pc h1,λF0 B F H Y Z d Q rs e w=>?_⟩;obtain⟨d1,d2,e1,L,e3⟩:=fu e;obtain⟨d3,e6,e7⟩:=c9 e3;obtain⟨r,e4,e5⟩:=c9 e7;cases e5;refine qa F0 B F H Y Z d1 _ rs e1 λx F1 H1 x1 l1=>?_;have:∃a,x=.ref a/\EZ H1 a:=by
  cases d1 with
  |dK ks O=>obtain⟨a,vs,rfl,ha,_⟩:=l1.dK x1.fh;exact⟨a,rfl,.inl ⟨_,.inl ha⟩⟩
  |dT ks O=>obtain⟨a,vs,rfl,ha,_⟩:=l1.dT x1.fh;exact⟨a,rfl,.inr ⟨_,ha⟩⟩
  |_=>cases e4
 obtain⟨a,rfl,KU⟩:=this;refine⟨a,rfl,KU,qb F0 B F1 H1 Y Z d2 _ (rs.ext x1) L λy F2 H2 x2 l2=>?_⟩;refine qc F0 B F2 H2 Y Z d3 _ (rs.ext<|x1.trans x2) e6 λz F3 H3 x3 l3=>?_;have tE:=x2.trans x3;obtain⟨a',o,ea,gg,_,h⟩:=IS (r:=r) tE.fh (l1.mono tE.ff tE.hh) (l2.mono x3.ff x3.hh) e4;cases ea;refine⟨o,gg,?_⟩;cases r with
 |none=>rw[h.none_of];exact w _ F3 H3 (x1.trans tE) l3
 |some d=>obtain⟨u,rfl,B4⟩:=h.some_of;exact w _ F3 H3 (x1.trans tE) B4
def F6:D->D->Bool
 |.non,.non=>Â
 |.bl a,.bl b=>a==b
 |.bl a,.int b=>(if a then 1 else 0)==b
 |.int a,.bl b=>a==(if b then 1 else 0)
 |.int a,.int b=>a==b
 |.str a,.str b=>a==b
 |_,_=>Ã
theorem R8 {x y:D}(hx:x.sc=Â)(hy:y.sc=Â):AG x.v y.v=F6 x y:=by cases x<;>first|cases hx;done|(cases y<;>first|cases hy;done|rfl)
def B5 (x:D)(O:List D):Bool:=O.any λy=>F6 y x
theorem Jv {x:D}(hx:x.sc=Â):∀{O:List D},O.all D.sc=Â->Il x.v (O.map D.v)=B5 x O
 |[],_=>rfl
 |d::O,h=>by rw[gJ,dE]at h;have ih:=Jv hx h.2;unfold Il B5 at ih ⊢;rw[dC,kJ,kJ,ih,R8 h.1 hx]
theorem jd:∀{O:List D},O.all D.sc=Â->(O.map D.v).all nQ=Â
 |[],_=>rfl
 |d::O,h=>by rw[gJ,dE]at h;rw[dC,gJ,D.flat h.1,jd h.2];rfl
def ñ (neg:Bool)(x y:D):Option D:=match y with
 |.lst O=>if x.sc=Â/\O.all D.sc=Â then U (.bl<|if neg then !B5 x O else B5 x O)else G
 |.tup O=>if x.sc=Â/\O.all D.sc=Â then U (.bl<|if neg then !B5 x O else B5 x O)else G
 |.kt O=>if x.sc=Â/\O.all D.sc=Â then U (.bl<|if neg then !B5 x O else B5 x O)else G
 |_=>G
theorem HA:sV K J n m k (Lg K neg) (ñ neg):=by
 intro F H x y d1 d2 d Q s l1 l2 e w;cases d2 with
 |lst O=>
  unfold ñ at e;dsimp only at e;by_cases h:d1.sc=Â/\O.all D.sc=Â
  ·rw[if_pos h]at e;cases e;obtain⟨a,vs,rfl,ha,hp⟩:=l2.lst s;have hv:=hp.vs h.2;subst hv;have hx:=Al.v l1 h.1;subst hx;refine⟨a,_,rfl,.inl ha,D.flat h.1,jd h.2,?_⟩;rw[Jv h.1 h.2];exact w _ F H (.refl s)<|Al.of<|.bl _
  ·rw[if_neg h]at e;cases e
 |tup O=>
  unfold ñ at e;dsimp only at e;by_cases h:d1.sc=Â/\O.all D.sc=Â
  ·rw[if_pos h]at e;cases e;obtain⟨a,vs,rfl,ha,hp⟩:=l2.tup s;have hv:=hp.vs h.2;subst hv;have hx:=Al.v l1 h.1;subst hx;refine⟨a,_,rfl,.inr<|pX.of ha,D.flat h.1,jd h.2,?_⟩;rw[Jv h.1 h.2];exact w _ F H (.refl s)<|Al.of<|.bl _
  ·rw[if_neg h]at e;cases e
 |kt O=>
  unfold ñ at e;dsimp only at e;by_cases h:d1.sc=Â/\O.all D.sc=Â
  ·rw[if_pos h]at e;cases e;obtain⟨a,vs,rfl,ha,hp⟩:=l2.kt;have hv:=Pr.vs (n:=0) (F:=F) (V':=H) (hp.mono λ_ _ q=>q) h.2;subst hv;have hx:=Al.v l1 h.1;subst hx;refine⟨a,_,rfl,.inr<|.inr ha,D.flat h.1,jd h.2,?_⟩;rw[Jv h.1 h.2];exact w _ F H (.refl s)<|Al.of<|.bl _
  ·rw[if_neg h]at e;cases e
 |_=>cases e
def fV:List D->Option D
 |[.lst O]=>U<|.int O.length
 |[.tup O]=>U<|.int O.length
 |[.kt O]=>U<|.int O.length
 |[.dK ks _]=>U<|.int ks.length
 |[.str x]=>if x.length<=16777216 then U (.int x.length)else G
 |_=>G
def G6 (K:cL):List V->Hp->VK->Prop:=λxs H Q=>(∃p ys,xs=[.ref p]/\(iE K H p ys\/pX K H p ys)/\Q (.int ys.length) H)\/(∃z,xs=[.str z]/\z.length<=sizeLine/\Q (.int z.length) H)\/∃a fm,xs=[V.ref a]/\H a=U (.dK fm)/\Q (.int fm.length) H
theorem Y1:jK X (.builtin "len") (G6 X.K):=WV.or<|WW.or YO
theorem zub:BX K J [n] k (G6 K) fV:=by
 intro F H vs O d Q s l e w;cases l with
 |cons h t=>
  cases t;rename_i d1 v;cases d1 with
  |lst xs=>cases e;obtain⟨a,us,rfl,ha,hp⟩:=h.lst s;refine .inl ⟨a,us,rfl,.inl ha,?_⟩;rw[←hp.length];exact w _ F H (.refl s)<|Al.of<|.int _
  |tup xs=>cases e;obtain⟨a,us,rfl,ha,hp⟩:=h.tup s;refine .inl ⟨a,us,rfl,.inr<|pX.of ha,?_⟩;rw[←hp.length];exact w _ F H (.refl s)<|Al.of<|.int _
  |kt xs=>cases e;obtain⟨a,us,rfl,ha,hp⟩:=h.kt;refine .inl ⟨a,us,rfl,.inr<|.inr ha,?_⟩;rw[←hp.length];exact w _ F H (.refl s)<|Al.of<|.int _
  |str x=>
   unfold fV at e;dsimp only at e;by_cases hz:x.length<=16777216
   ·rw[if_pos hz]at e;cases e;exact .inr (.inl ⟨x,by rw[h.str],by rw[dW];exact hz,w _ F H (.refl s)<|Al.of<|.int _⟩)
   ·rw[if_neg hz]at e;cases e
  |dK ks xs=>cases e;obtain⟨a,us,rfl,ha,hl,hp⟩:=h.dK s;refine .inr<|.inr ⟨a,_,rfl,ha,?_⟩;rw[ij,←hl,i7];exact w _ F H (.refl s)<|Al.of<|.int _
  |_=>cases e
variable {ι:Type}{cap:List Nat}{qL:Expr}{ifs:List Expr}{om:List Mo}{scope:rY}
theorem ō {Xs:ι->Cx}(hK:∀i,(Xs i).K=K)(h:∀i,XO (Xs i) J S n e f):∃t,(∀i,PE (Xs i) e t)/\∀(F0 B F H:Hp) (Y:Env) (Z:St) (d:D) (Q:VK),RS K J F0 B S F H Y Z->f Y=U d ->
  (∀v F' H' fp,kR F H F' H'->Ow K J F' H' n d v fp->fp.Nodup->(∀a∈fp,H a=G)->Q v H')->t Z H Q:=by
 refine⟨λZ H Q=>∀i,(h i).choose Z H Q,λi cM s Z H Q I q=>(h i).choose_spec.1 cM s Z H Q I<|q i,λF0 B F H Y Z d Q rs e w i=>?_⟩;exact(h i).choose_spec.2 F0 B F H Y Z d Q (by rw[hK i];exact rs) e λv F' H' fp x l=>w v F' H' fp x (by rw[←hK i];exact l)
def Cp (X:Cx)(J:Nat->cN)(S:List Mo)(ifs:List Expr)(f:BF):Prop:=∃t,Di X ifs t/\∀(F0 B F H:Hp) (Y:Env) (Z:St) (b:Bool) (Q:Bool->Hp->Prop),RS X.K J F0 B S F H Y Z->f Y=U b->(∀F' H',kR F H F' H'->Q b H')->t Z H Q
def gW:BF:=λ_=>U Â
theorem yg:Cp X J S [] gW:=⟨_,ztr,λF0 B F H Y Z b Q rs e w=>by cases e;exact w F H<|.refl rs.fh⟩
theorem wq (h:XT X J S c p):Cp X J S [c] p:=by obtain⟨t,pt,qt⟩:=h;exact⟨t,zts pt,qt⟩
theorem Ō {Xs:ι->Cx}{f:BF}(hK:∀i,(Xs i).K=K)(h:∀i,Cp (Xs i) J S ifs f):∃t,(∀i,Di (Xs i) ifs t)/\∀(F0 B F H:Hp) (Y:Env) (Z:St) (b:Bool) (Q:Bool->Hp->Prop),RS K J F0 B S F H Y Z->f Y=U b ->
  (∀F' H',kR F H F' H'->Q b H')->t Z H Q:=by
 refine⟨λZ H Q=>∀i,(h i).choose Z H Q,λi cM s Z H Q I q=>(h i).choose_spec.1 cM s Z H Q I<|q i,λF0 B F H Y Z d Q rs e w i=>?_⟩;exact(h i).choose_spec.2 F0 B F H Y Z d Q (by rw[hK i];exact rs) e w
def DA (g:α->St->Hp->(St->Hp->Prop)->Prop):Prop:=∀v Z H Q Q',(∀σ' H',Q σ' H'->Q' σ' H')->g v Z H Q->g v Z H Q'
def A1 (X:Cx)(J:Nat->cN)(S:List Mo)(own n:Nat)(tg:Expr)(g:D->Env->Option Env):Prop:=∃t,PG X tg t/\lF own t/\DA t/\∀(F0 B F H:Hp) (Y ρ':Env) (Z:St) (d:D) (v:V) (Q:St->Hp->Prop),RS X.K J F0 B S F H Y Z->Al X.K J F B n d v->g d Y=U ρ' ->
 (∀σ',RS X.K J F0 B S F H ρ' σ'->Q σ' H)->t v Z H Q
theorem ŋ {Xs:ι->Cx}{own:Nat}{g:D->Env->Option Env}(hK:∀i,(Xs i).K=K)(h:∀i,A1 (Xs i) J S own n tg g):∃t,(∀i,PG (Xs i) tg t)/\lF own t/\∀(F0 B F H:Hp) (Y ρ':Env) (Z:St) (d:D) (v:V) (Q:St->Hp->Prop),RS K J F0 B S F H Y Z->Al K J F B n d v->g d Y=U ρ' ->
  (∀σ',RS K J F0 B S F H ρ' σ'->Q σ' H)->t v Z H Q:=by
 refine⟨λv Z H Q=>∀i,(h i).choose v Z H Q,λi cM s Z H v u Q I r q=>(h i).choose_spec.1 cM s Z H v u Q I r<|q i,λv Z H Q q i=>(h i).choose_spec.2.1 v Z H Q<|q i,λF0 B F H Y ρ' Z d v Q rs l e w i=>?_⟩;exact(h i).choose_spec.2.2.2 F0 B F H Y ρ' Z d v Q (by rw[hK i];exact rs) (by rw[hK i];exact l) e λσ' r=>w σ' (by rw[←hK i];exact r)
theorem Zm {own:Nat}(ho:i<own)(hm:S[i]?=U (.ow 0))(hN:X.N.Nodup)(hi:X.N[i]?=U x)(hx:ë X.env.scope x)
  (hf:uQ X x:=by walk_at "v2"):A1 X J S own 0 (.Name x pos) (gV i):=by
 refine⟨_,IU hN hi hx hf,OQ i own ho,λv Z H Q Q' m q=>m _ _ q,λF0 B F H Y ρ' Z d v Q rs l e w=>?_⟩;cases e;exact w _ (rs.set hm (.refl rs.fh) (Ow.zero l) dZ λa z=>(by cases z))
theorem Y2 {own:Nat}(ho:i<own)(hm:S[i]?=U (.al n))(hN:X.N.Nodup)(hi:X.N[i]?=U x)(hx:ë X.env.scope x)
  (hf:uQ X x:=by walk_at "v2"):A1 X J S own n (.Name x pos) (gV i):=by
 refine⟨_,IU hN hi hx hf,OQ i own ho,λv Z H Q Q' m q=>m _ _ q,λF0 B F H Y ρ' Z d v Q rs l e w=>?_⟩;cases e;obtain⟨fp,sl,nd,hb⟩:=rs.sl;exact w _ ⟨rs.f0,rs.bh,rs.fh,rs.nf,fp,sl.setA l hm,nd,hb⟩
def Eo (own:Nat)(g:Dk):Prop:=∀v Z H Q,g v Z H Q->g v Z H λσ' H'=>Q σ' H'/\σ'.length = Z.length/\∀i,own<=i->σ'[i]? = Z[i]?
def Ck (X:Cx)(J:Nat->cN)(S:List Mo)(own n:Nat)(tw:List Expr)(g:List D->Env->Option Env):Prop:=∃t,E1 X tw t/\Eo own t/\DA t/\(∀O Y ρ',g O Y=U ρ'->O.length=tw.length)/\∀(F0 B F H:Hp) (Y ρ':Env) (Z:St) (O:List D) (vs:List V) (Q:St->Hp->Prop),RS X.K J F0 B S F H Y Z->Pr (Al X.K J F B n) O vs->g O Y=U ρ' ->
 (∀σ',RS X.K J F0 B S F H ρ' σ'->Q σ' H)->t vs Z H Q
theorem vh {own:Nat}:Ck X J S own n [] Ù:=by
 refine⟨_,Qy,λv Z H Q q=>⟨q.1,q.2,rfl,λ_ _=>rfl⟩,λv Z H Q Q' m q=>⟨q.1,m _ _ q.2⟩,λO Y ρ' e=>?_,λF0 B F H Y ρ' Z O vs Q rs l e w=>?_⟩
 ·cases O with
  |nil=>rfl
  |cons d O=>cases e
 ·cases l with
  |nil=>cases e;exact⟨rfl,w Z rs⟩
  |cons _ _=>cases e
theorem yo {own:Nat}(h1:A1 X J S own n tg gg)(h2:Ck X J S own n tw gs)
  (hs:(gx (tg::tw) X.env).map (·.2)=o8 tg X.env::(gx tw X.env).map (·.2):=by rfl):Ck X J S own n (tg::tw) (Í gg gs):=by
 obtain⟨t,pt,kt,mt,qt⟩:=h1;obtain⟨t2,vY,Uz,N3,GI,wB⟩:=h2;refine⟨_,PY pt vY hs,λvs Z H Q q=>?_,λvs Z H Q Q' m q=>?_,λO Y ρ' e=>?_,λF0 B F H Y ρ' Z O vs Q rs l e w=>?_⟩
 ·obtain⟨v,r,e,q⟩:=q;refine⟨v,r,e,mt _ _ _ _ _ (λσ' H' z=>?_)<|kt v Z H _ q⟩;obtain⟨z1,z2,z3⟩:=z;refine N3 _ _ _ _ _ (λσ2 H2 y=>?_)<|Uz r σ' H' Q z1;exact⟨y.1,y.2.1.trans z2,λi hi=>(y.2.2 i hi).trans<|z3 i hi⟩
 ·obtain⟨v,r,e,q⟩:=q;exact⟨v,r,e,mt _ _ _ _ _ (λσ' H' z=>N3 _ _ _ _ _ m z) q⟩
 ·cases O with
  |nil=>cases e
  |cons d O=>obtain⟨ρ1,h3,h4⟩:=c9 e;rw[cX,cX,GI _ _ _ h4]
 ·cases l with
  |nil=>cases e
  |cons h t'=>obtain⟨ρ1,h3,h4⟩:=c9 e;exact⟨_,_,rfl,qt F0 B F H Y ρ1 Z _ _ _ rs h h3 λσ1 r1=>wB F0 B F H ρ1 ρ' σ1 _ _ _ r1 t' h4 w⟩
theorem u4 {own:Nat}(hc:X.calm=Â)(h:Ck X J S own (n-1) tw gs)(hl:(gx tw X.env).length=tw.length:=by rfl)(lE:(gx tw X.env).findIdx? (·.1)=G:=by rfl):A1 X J S own n (.Tuple tw j pos) (gT gs):=by
 obtain⟨t,pt,kt,mt,lt,qt⟩:=h;refine⟨_,Ro (n:=tw.length) hc pt hl lE,λv Z H Q q=>?_,λv Z H Q Q' m q=>?_,λF0 B F H Y ρ' Z d v Q rs l e w=>?_⟩
 ·obtain⟨a,xs,e,h1,h2,q⟩:=q;exact⟨a,xs,e,h1,h2,kt _ _ _ _ q⟩
 ·obtain⟨a,xs,e,h1,h2,q⟩:=q;exact⟨a,xs,e,h1,h2,mt _ _ _ _ _ m q⟩
 cases d with
 |tup O=>
  have:∃a vs,v=.ref a/\pX X.K H a vs/\Pr (Al X.K J F B<|n-1) O vs:=by
   cases n with
   |zero=>
    have l:Dt X.K J F (.tup O) v:=l;cases l with
    |tup q t=>exact⟨_,_,rfl,pX.of<|rs.fh _ _ q,t.pr⟩
   |succ n=>
    rcases l with l|l
    ·cases l with
     |tup q t=>exact⟨_,_,rfl,pX.of<|rs.fh _ _ q,t.pr.mono λ_ _=>Al.of⟩
    ·cases l with
     |tup q t=>exact⟨_,_,rfl,pX.of<|rs.fh _ _ q,t⟩
  obtain⟨a,vs,rfl,ha,hp⟩:=this;exact⟨a,vs,rfl,ha,hp.length.symm.trans<|lt _ _ _ e,qt F0 B F H Y ρ' Z O vs Q rs hp e w⟩
 |_=>cases e
def rG (Y:Env)(cap:List Nat):Env:=cap.map λi=>(Y[i]?).join
def ke (S:List Mo)(cap:List Nat):List Mo:=cap.map λi=>.al<|((S[i]?).map Mo.lv).getD 0
def vF (g:D->Env->Option Env)(p:BF)(f:EF)(ρ0:Env):List D->Option (List D)
 |[]=>U []
 |d::O=>(g d ρ0).bind λρ1=>(p ρ1).bind λb=>if b=Â then(f ρ1).bind λy=>(vF g p f ρ0 O).bind λys=>U (y::ys)else vF g p f ρ0 O
def fw (fi:Env->Option (List D))(own:Nat)(cap:List Nat)(g:D->Env->Option Env)(p:BF)(f:EF):EF:=λY=>(fi Y).bind λO=>if O.length<=16777216 then(vF g p f (cY own G++rG Y cap) O).bind λys=>U (.lst ys)else G
theorem SL.caps {F B H:Hp}{S:List Mo}{Y:Env}{Z:St}(rs:RS K J F0 B S F H Y Z):∀{cap:List Nat},(∀i∈cap,i<S.length)->SL K J F H H (ke S cap) (rG Y cap) (mG Z cap) []
 |[],_=>.nil
 |i::cap,h=>by
  have ih:=SL.caps rs (cap:=cap) λj hj=>h j<|cQ _ hj;have hi:i<S.length:=h i cK;have hm:S[i]?=U S[i]:=by simp[hi]
  show SL K J F H H (.al (((S[i]?).map Mo.lv).getD 0)::ke S cap) ((Y[i]?).join::rG Y cap) ((Z[i]?).join::mG Z cap) [];cases e:(Y[i]?).join with
  |none=>exact .no ih
  |some d=>obtain⟨v,hv,l⟩:=rs.get hm<|zp e;rw[hv,hm];exact .al l ih
theorem SL.nones {F B H:Hp}{S K8:List Mo}{Y:Env}{Z:St}{fp:List cN}(t:SL K J F B H S Y Z fp):∀{om:List Mo},SL K J F B H (om++S) (cY om.length G ++ Y) (cY om.length G ++ Z) fp
 |[]=>t
 |m::om=>.no<|SL.nones (K8:=K8) t
theorem Qe {pos:mR}{own:Nat}{c:Prop}
  (B:pB X scope N own cap) (hc:c) (ho:om.length=own) (rK:∀i∈cap,i<S.length) (hi:DY X c J S n tg iter fi)
  (hg:∀cl KK fp s₀ H₀,A1 (nZ X scope cl N KK fp s₀ H₀) J (om++ke S cap) own n tg gg) (ht:∀cl KK fp s₀ H₀,Cp (nZ X scope cl N KK fp s₀ H₀) J (om++ke S cap) ifs p) (he:∀cl KK fp s₀ H₀,XO (nZ X scope cl N KK fp s₀ H₀) J (om++ke S cap) k qL f)
  :
  ∃wi g tt te,FQ X c tg iter wi/\lF own g/\(∀cl KK fp s₀ H₀,PG (nZ X scope cl N KK fp s₀ H₀) tg g)/\(∀cl KK fp s₀ H₀,Di (nZ X scope cl N KK fp s₀ H₀) ifs tt)/\(∀cl KK fp s₀ H₀,PE (nZ X scope cl N KK fp s₀ H₀) qL te) /\
   ∀(F0 B F H:Hp) (Y:Env) (Z:St) (d:D) (Q:VK),RS X.K J F0 B S F H Y Z->fw fi own cap gg p f Y=U d->(∀v F' H' fp,kR F H F' H'->Ow X.K J F' H' (k+1) d v fp->fp.Nodup->(∀a∈fp,H a=G)->Q v H')->Aq wi own cap g tt te Z H Q:=by
 obtain⟨wi,pi,qi⟩:=hi;obtain⟨Ot,pg,kg,qg⟩:=ŋ (K:=X.K) (Xs:=λz:List (Str×cN)×cN×List cN×cU×Hp=>nZ X scope z.1 N z.2.1 z.2.2.1 z.2.2.2.1 z.2.2.2.2) (λ_=>rfl)<|λz=>hg z.1 z.2.1 z.2.2.1 z.2.2.2.1 z.2.2.2.2;obtain⟨tt,pt,qt⟩:=Ō (K:=X.K) (Xs:=λz:List (Str×cN)×cN×List cN×cU×Hp=>nZ X scope z.1 N z.2.1 z.2.2.1 z.2.2.2.1 z.2.2.2.2) (λ_=>rfl)<|λz=>ht z.1 z.2.1 z.2.2.1 z.2.2.2.1 z.2.2.2.2;obtain⟨te,pe,qe⟩:=ō (K:=X.K) (Xs:=λz:List (Str×cN)×cN×List cN×cU×Hp=>nZ X scope z.1 N z.2.1 z.2.2.1 z.2.2.2.1 z.2.2.2.2) (λ_=>rfl)<|λz=>he z.1 z.2.1 z.2.2.1 z.2.2.2.1 z.2.2.2.2;refine⟨wi,Ot,tt,te,pi,kg,(λcl KK fp s₀ H₀=>pg (cl,KK,fp,s₀,H₀)),(λcl KK fp s₀ H₀=>pt (cl,KK,fp,s₀,H₀)),(λcl KK fp s₀ H₀=>pe (cl,KK,fp,s₀,H₀)),λF0 B F H Y Z r Q rs e w=>?_⟩;obtain⟨O,h1,h2⟩:=c9 e;by_cases hz:O.length<=16777216
 case neg=>rw[if_neg hz]at h2;cases h2
 rw[if_pos hz]at h2;obtain⟨ys,h3,h4⟩:=c9 h2;cases h4;refine qi F0 B F H Y Z O _ rs h1 λU' F1 H1 x1 ok A hA=>?_;have qO:=rs.ext x1;refine⟨λi m us H2=>m=O.length-i/\i<=O.length/\us.length<=i/\H2 A=U (.lst us)/\∃F2 yd zd fp,kR F1 H1 F2 H2/\F2 A=G/\iH (Ow X.K J F2 H2 k) yd us fp/\fp.Nodup/\(∀a∈fp,H1 a=G/\a≠A)/\vF gg p f (cY own G++rG Y cap) (O.drop i)=U zd/\yd++zd=ys,
  ⟨O.length,rfl,e8 _,di _,zu,F1,[],ys,[],kR.newO x1.fh hA _,x1.fh.free hA,.nil,dZ,λa z=>(by cases z),h3,rfl⟩,?_⟩
 rintro i m us H2 ⟨rfl,Fe,Ul,HP,F2,yd,zd,fp,x2,fA,ol,nd,hf,kT,Ih⟩;refine⟨HP,?_⟩;have B7:=qO.ext x2;obtain⟨k1,k2⟩:=ok i F2 H2 x2.ff x2.hh x2.fh;by_cases tV:i<O.length
 ·right;have hd:O[i]?=U O[i]:=by simp[tV]
  obtain⟨go,yl⟩:=k1 _ hd;rw[hU tV]at kT;obtain⟨ρ1,h5,h6⟩:=c9 kT;obtain⟨b,h7,h8⟩:=c9 h6;refine⟨go,by rw[dW];lia,λx H3 y=>?_⟩;obtain⟨F3,x3,l⟩:=yl x H3 y;have UV:=B7.ext x3;have sl:=SL.nones (K8:=[]) (SL.caps UV rK) (om:=om);rw[ho]at sl;have UW:RS X.K J F3 H3 (om++ke S cap) F3 H3 (cY own G++rG Y cap) (cY own G++mG Z cap):=⟨.refl _,.refl _,x3.fh,λ_ _ _ _ h=>h,[],sl,dZ,λa z=>(by cases z)⟩;have A3:H3 A=U (.lst us):=x3.hh _ _ HP;have Nl:F3 A=G:=x3.nf A _ HP nofun fA;refine qg F3 H3 F3 H3 _ ρ1 _ _ x _ UW (l.mono (.refl _) (x2.trans x3).hh) h5 λσ1 r1=>?_;refine qt F3 H3 F3 H3 ρ1 σ1 b _ r1 h7 λF4 H4 x4=>?_;cases b with
  |false=>rw[if_neg cZ]at h8 ⊢;have Oy:=x3.trans x4;refine⟨O.length-(i+1),by lia,rfl,tV,by lia,x4.hh _ _ A3,F4,yd,zd,fp,x2.trans Oy,x4.nf A _ A3 nofun Nl,ol.mono λ_ _ _ _ o=>o.ext Oy,nd,hf,h8,Ih⟩
  |true=>
   rw[if_pos rfl]at h8 ⊢;obtain⟨yv,h9,HN⟩:=c9 h8;obtain⟨zs,Tw,Tx⟩:=c9 HN;cases Tx;refine qe F3 H3 F4 H4 ρ1 σ1 yv _ (r1.ext x4) h9 λv F5 H5 f5 x5 o5 n5 Kb=>?_;have LK:=(x3.trans x4).trans x5;have Oz:=x4.trans x5;have A5:H5 A=U (.lst us):=Oz.hh _ _ A3;have Nm:F5 A=G:=Oz.nf A _ A3 nofun Nl;have A4:H4 A=U (.lst us):=x4.hh _ _ A3;have Nv:∀a∈f5,a≠A:=λa z e=>by rw[e]at z;rw[Kb A z]at A4;cases A4
   refine⟨A5,O.length-(i+1),by lia,rfl,tV,by rw[ee,pA];lia,zu,F5,yd++[yv],zs,fp++(f5++[]),?_,Nm,?_,?_,?_,Tw,by rw[et];exact Ih⟩
   ·have ID:=x2.trans LK;refine⟨ID.ff,λa o h=>?_,λa o h=>?_,ID.nf⟩
    ·rw[zo<|z7 h hA];exact ID.hh _ _ h
    ·rw[zo<|λz=>by rw[z]at h;rw[Nm]at h;cases h];exact ID.fh _ _ h
   ·refine(ol.mono λ_ _ f T1 o=>?_).append<|.cons ?_ .nil
    ·refine(o.ext LK).frame (.refl _) λa z=>⟨zo (hf a<|T1 a z).2,((o.ext LK).cells a z).1⟩
    ·exact o5.frame (.refl _) λa z=>⟨zo<|Nv a z,(o5.cells a z).1⟩
   ·rw[dU];refine c8.mpr ⟨nd,n5,λa z c hc e=>?_⟩;subst e;have:∃o,H2 a=U o:=let⟨o,h,_⟩:=(iH.cellsOf ol a z).2;⟨o,h⟩;obtain⟨o,ho⟩:=this;have:=x4.hh _ _<|x3.hh _ _ ho;rw[Kb a hc]at this;cases this
   ·intro a z;rw[dU]at z;rcases dc.mp z with z|z
    ·exact hf a z
    ·refine⟨?_,Nv a z⟩;have Vj:=x2.trans<|x3.trans x4;exact Vj.hh.free<|Kb a z
 ·left;refine⟨k2<|by lia,?_⟩
  have:O.drop i=[]:=oP (by lia);rw[this]at kT;cases kT;rw[dU]at Ih;subst Ih;refine w _ F2 H2 (A::fp) (x1.trans x2) (.inr<|.lst fA HP ol) (dO.mpr ⟨λz=>(hf A z).2 rfl,nd⟩) λa z=>?_;rcases cP.mp z with rfl|z
  ·exact x1.hh.free hA
  ·exact x1.hh.free (hf a z).1
theorem QM {own:Nat}{c:Prop}
  (B:pB X scope N own cap) (hc:c) (ho:om.length=own) (rK:∀i∈cap,i<S.length) (hi:DY X c J S n tg iter fi)
  (hg:∀cl KK fp s₀ H₀,A1 (nZ X scope cl N KK fp s₀ H₀) J (om++ke S cap) own n tg gg) (ht:∀cl KK fp s₀ H₀,Cp (nZ X scope cl N KK fp s₀ H₀) J (om++ke S cap) ifs p) (he:∀cl KK fp s₀ H₀,XO (nZ X scope cl N KK fp s₀ H₀) J (om++ke S cap) k qL f)
  (hs:A0 X iter:=by intro _;rfl):XO X J S (k+1) (.ListComp qL [⟨tg,iter,ifs,0⟩] scope pos) (fw fi own cap gg p f):=by
 obtain⟨wi,g,tt,te,pi,kg,pg,pt,pe,q⟩:=Qe (k:=k) (pos:=pos) B hc ho rK hi hg ht he;exact⟨_,ztt B hc pi kg pg pt pe hs,q⟩
variable {tI:List Expr}{pt:mR}
def FW:D->Option (List D)
 |.lst O=>U O
 |_=>G
theorem LU (h:FW d=U O):d=.lst O:=by cases d<;>simp[FW]at h;subst h;rfl
def ß (f:EF):Env->Option (List D):=λY=>(f Y).bind FW
theorem HB {V':Hp}{a:cN}{vs:List V}(hp:Pr (Al K J F B n) O vs)(keep:∀F' H',ej F F'->ej B H'->ej F' H'->iE K H' a vs):AD K J F B n (JE K a) O:=by intro i F' H' s1 s2 s3;have hs:iE K H' a vs:=keep F' H' s1 s2 s3;refine⟨λd hd=>?_,λhl=>⟨vs,hs,by rw[←hp.length];exact hl⟩⟩;obtain⟨v,hv,l⟩:=hp.get' hd;refine⟨⟨vs,v,hs,hv⟩,λx H2 y=>?_⟩;obtain⟨e,y⟩:=y;subst e;have:=y vs hs;rw[hv]at this;cases this;exact⟨F',.refl s3,l.mono s1<|.refl _⟩
theorem Dt.lst_inv {v:V}(h:Dt K J F (.lst O) v):∃a vs,v=.ref a/\iE K F a vs/\â K J F O vs:=by
 cases h with
 |lst q t=>exact⟨_,_,rfl,q,t⟩
theorem xz (he:XE X J S 0 e f):XI X J S 0 tg e (ß f):=by obtain⟨t,pt,qt⟩:=he;refine⟨_,IV pt,λF0 B F H Y Z O R rs e w=>?_⟩;obtain⟨d,h1,h2⟩:=c9 e;rw[LU h2]at h1;refine qt F0 B F H Y Z _ _ rs h1 λv F' H' x l=>?_;obtain⟨a,vs,rfl,ha,hp⟩:=Dt.lst_inv l;exact⟨a,rfl,⟨vs,x.fh.seq ha⟩,w _ F' H' x<|HB (V':=H') (n:=0) (hp.pr) λF2 H2 s1 s2 s3=>s3.seq<|s1.seq ha⟩
theorem yp (he:XE X J S n e f):Cm X J S (n-1) tg e (ß f):=by obtain⟨t,pt,qt⟩:=he;refine⟨_,IV pt,λF0 B F H Y Z O R rs e w=>?_⟩;obtain⟨d,h1,h2⟩:=c9 e;rw[LU h2]at h1;refine qt F0 B F H Y Z _ _ rs h1 λv F' H' x l=>?_;obtain⟨a,vs,rfl,ha,hp⟩:=l.lst x.fh;exact⟨a,rfl,⟨vs,ha⟩,w _ F' H' x<|HB (V':=H') hp λF2 H2 s1 s2 s3=>s2.seq ha⟩
theorem XI.cc (h:XI X J S n tg e fi):Cm X J S n tg e fi:=by obtain⟨t,pt,qt⟩:=h;refine⟨t,pt,λF0 B F H Y Z O R rs e w=>qt F0 B F H Y Z O R rs e λU' F' H' x ok=>w U' F' H' x λi F2 H2 s1 s2 s3=>?_⟩;obtain⟨k1,k2⟩:=ok i F2 H2 s1 ((rs.ext x).bh.trans s2) s3;refine⟨λd hd=>?_,k2⟩;obtain⟨go,yl⟩:=k1 d hd;refine⟨go,λv H3 y=>?_⟩;obtain⟨F3,x3,l⟩:=yl v H3 y;exact⟨F3,x3,l.mono (.refl _) (rs.ext x).bh⟩
theorem SL.getA (h0:SL K J F B H S Y Z fp):S[i]?=U (.al n)->Y[i]?=U (U d)->∃v,Z[i]?=U (U v)/\Al K J F B n d v:=by
 induction h0 generalizing i with
 |nil=>intro e _;simp at e
 |@no m0 o0 S Y Z fp t ih=>
  intro e e';cases i with
  |zero=>have e:=e';simp at e
  |succ i=>simpa using ih (i:=i) (by simpa using e) (by simpa using e')
 |@al n0 d0 v0 S Y Z fp h t ih=>
  intro e e';cases i with
  |zero=>simp at e e';subst e;subst e';exact⟨_,rfl,h⟩
  |succ i=>simpa using ih (i:=i) (by simpa using e) (by simpa using e')
 |@px d0 v0 S Y Z fp h t ih=>
  intro e e';cases i with
  |zero=>simp at e
  |succ i=>simpa using ih (i:=i) (by simpa using e) (by simpa using e')
 |@so d0 x0 S Y Z f0 F8 h t ih=>
  intro e e';cases i with
  |zero=>simp at e
  |succ i=>simpa using ih (i:=i) (by simpa using e) (by simpa using e')
 |@ow n0 d0 v0 S Y Z f0 F8 h t ih=>
  intro e e';cases i with
  |zero=>simp at e
  |succ i=>simpa using ih (i:=i) (by simpa using e) (by simpa using e')
theorem zuc (i:Nat)(hm:S[i]?=U (.al<|n+1):=by rfl)(hN:X.N[i]?=U x:=by rfl)(hv:rZ X.env.scope x:=by walk_at "v1")(hd:kW x:=by decide)
  (kT:sU x:=by decide):XI X J S n tg (.Name x pos) (ß<|M i):=by
 refine⟨_,IV<|xm hN hv hd kT,λF0 B F H Y Z O R rs e w=>?_⟩;obtain⟨d,h1,h2⟩:=c9 e;rw[LU h2]at h1;obtain⟨fp,sl,_,_⟩:=rs.sl;obtain⟨v,CG,l⟩:=sl.getA hm<|zp h1;refine⟨v,CG,?_⟩;rcases l with l|l
 ·obtain⟨a,vs,rfl,ha,hp⟩:=Dt.lst_inv l;exact⟨a,rfl,⟨vs,rs.fh.seq ha⟩,w _ F H (.refl rs.fh)<|HB (V':=H) (hp.pr.mono λ_ _=>Al.of) λF2 H2 s1 s2 s3=>s3.seq<|s1.seq ha⟩
 ·cases l with
  |lst ha hp=>exact⟨_,rfl,⟨_,iE.of<|rs.bh _ _ ha⟩,w _ F H (.refl rs.fh)<|HB (V':=H) hp λF2 H2 s1 s2 s3=>iE.of<|s2 _ _ ha⟩
noncomputable def qG (lo:Int)(j:Nat):List D:=(eF j).map λ(t:Nat)=>.int<|lo+(t:Int)
def lA:List D->Option (List D)
 |[.int j]=>if -4611686018427387904<=j/\j<4611686018427387904 then U (qG 0 j.toNat)else G
 |_=>G
def t7:List D->Option (List D)
 |[.int i,.int j]=>if -4611686018427387904<=i/\i<4611686018427387904/\-4611686018427387904<=j/\j<4611686018427387904 then U (qG i (j-i).toNat)else G
 |_=>G
theorem Rz {lo:Int}:AD K J F B n (FI lo j) (qG lo j):=by
 intro i F' H' s1 s2 s3;unfold qG;refine⟨λd hd=>?_,λhl=>(show j<=i by simpa using hl)⟩;rw[eU]at hd;by_cases h:i<j
 ·rw[zW h]at hd;cases hd;refine⟨h,λx H2 y=>?_⟩;obtain⟨e,y⟩:=y;subst e;subst y;exact⟨F',.refl s3,Al.of<|.int _⟩
 ·rw[pz<|by simpa using h]at hd;cases hd
theorem yk (hm:X.mg "range"=G)(ha:XA X J S [a] [m] fs)(hg:Gl X "range":=by rfl)(hs:SN X a:=by rfl):XI X J S n tg (.Call (.Name "range" pp) [a] [] pos) (λY=>(fs Y).bind lA):=by
 obtain⟨t,pt,_,qt⟩:=ha;refine⟨_,YD hg hm pt hs,λF0 B F H Y Z O R rs e w=>?_⟩;obtain⟨ds',h1,h2⟩:=c9 e;refine qt F0 B F H Y Z _ _ rs h1 λvs F' H' x l=>?_;cases l with
 |cons h t=>
  cases t;rename_i d v;cases d with
  |int j=>
   unfold lA at h2;dsimp only at h2;by_cases hj:-4611686018427387904<=j/\j<4611686018427387904
   ·rw[if_pos hj]at h2;cases h2;exact⟨j,by rw[h.int],by lia,by lia,w _ F' H' x Rz⟩
   ·rw[if_neg hj]at h2;cases h2
  |_=>cases h2
theorem LR {m':Nat}(hm:X.mg "range"=G)(ha:XA X J S [a,b] [m,m'] fs)(hg:Gl X "range":=by rfl)(hs:dJ [a,b] X.env=[(Ã,eW a X.env),(Ã,eW b X.env)]:=by rfl)(uU:SN X b:=by rfl):XI X J S n tg (.Call (.Name "range" pp) [a,b] [] pos) (λY=>(fs Y).bind t7):=by
 obtain⟨t,pt,_,qt⟩:=ha;refine⟨_,YE hg hm pt hs uU,λF0 B F H Y Z O R rs e w=>?_⟩;obtain⟨ds',h1,h2⟩:=c9 e;refine qt F0 B F H Y Z _ _ rs h1 λvs F' H' x l=>?_;cases l with
 |cons h t=>
  cases t with
  |cons h' t=>
   cases t;rename_i d v d' v';cases d with
   |int i=>
    cases d' with
    |int j=>
     unfold t7 at h2;dsimp only at h2;by_cases hj:-4611686018427387904<=i/\i<4611686018427387904/\-4611686018427387904<=j/\j<4611686018427387904
     ·rw[if_pos hj]at h2;cases h2;exact⟨i,j,by rw[h.int,h'.int],⟨by lia,by lia,by lia,by lia⟩,w _ F' H' x Rz⟩
     ·rw[if_neg hj]at h2;cases h2
    |_=>cases h2
   |_=>cases h2
def iC (i:Nat):List D->List D
 |[]=>[]
 |d::O=>.tup [.int i,d]::iC (i+1) O
theorem Pn:∀{O:List D} {j i:Nat} {d:D},(iC j O)[i]?=U d->∃x,O[i]?=U x/\d=.tup [.int (j+i:Nat),x]
 |[],_,_,_,h=>by simp[iC]at h
 |x::O,j,0,d,h=>by simp[iC]at h;subst h;exact⟨x,rfl,rfl⟩
 |x::O,j,i+1,d,h=>by obtain⟨y,h1,h2⟩:=Pn (O:=O) (j:=j+1) (i:=i) (d:=d) (by simpa[iC]using h);exact⟨y,by simpa using h1,by rw[h2,Nat.add_assoc,Nat.add_comm 1 i]⟩
theorem Po:∀{O:List D} {j:Nat},(iC j O).length=O.length
 |[],_=>rfl
 |_::O,j=>by simp[iC,Po (O:=O)]
theorem RA {a:cN}{vs:List V}(hp:Pr (Al K J F B n) O vs)(keep:∀F' H',ej F F'->ej B H'->ej F' H'->iE K H' a vs):AD K J F B (n+1) (JD K a) (iC 0 O):=by intro i F' H' s1 s2 s3;have hs:iE K H' a vs:=keep F' H' s1 s2 s3;refine⟨λd hd=>?_,λhl=>⟨vs,hs,by rw[←hp.length];rw[Po]at hl;exact hl⟩⟩;obtain⟨x,hx,rfl⟩:=Pn hd;obtain⟨v,hv,l⟩:=hp.get' hx;refine⟨⟨vs,v,hs,hv⟩,λz H2 y=>?_⟩;obtain⟨r,y',hr,rfl,rfl,y⟩:=y;have:=y vs hs;rw[hv]at this;cases this;refine⟨_,kR.newS s3 hr _,.inr<|.tup zu<|.cons (Al.of ?_)<|.cons (l.mono (s1.trans<|wm (s3.free hr) _)<|.refl _) .nil⟩;rw[yB];exact .int _
theorem MC {kt:Nat}(hm:X.mg "enumerate"=G)(ha:XA X J S [a] [0] fs)(hg:Gl X "enumerate":=by rfl)(hs:SN X a:=by rfl) :
  XI X J S 1 (.Tuple tI kt pt) (.Call (.Name "enumerate" pp) [a] [] pos) (λY=>(fs Y).bind λO=>match O with|[.lst xs]=>U (iC 0 xs)|_=>G):=by
 obtain⟨t,pt,_,qt⟩:=ha;refine⟨_,QG hg hm pt hs,λF0 B F H Y Z O R rs e w=>?_⟩;obtain⟨ds',h1,h2⟩:=c9 e;refine qt F0 B F H Y Z _ _ rs h1 λvs F' H' x l=>?_;cases l with
 |cons h t=>
  cases t;rename_i d v;cases d with
  |lst xs=>cases h2;obtain⟨a,vs,rfl,ha,hp⟩:=Dt.lst_inv h;exact⟨a,rfl,⟨vs,x.fh.seq ha⟩,w _ F' H' x<|RA (n:=0) hp.pr λF2 H2 s1 s2 s3=>s3.seq<|s1.seq ha⟩
  |_=>cases h2
theorem LV {kt:Nat}(hm:X.mg "enumerate"=G)(ha:XA X J S [a] [n] fs)(hg:Gl X "enumerate":=by rfl)(hs:SN X a:=by rfl) :
  Cm X J S (n-1+1) (.Tuple tI kt pt) (.Call (.Name "enumerate" pp) [a] [] pos) (λY=>(fs Y).bind λO=>match O with|[.lst xs]=>U (iC 0 xs)|_=>G):=by
 obtain⟨t,pt,_,qt⟩:=ha;refine⟨_,QG hg hm pt hs,λF0 B F H Y Z O R rs e w=>?_⟩;obtain⟨ds',h1,h2⟩:=c9 e;refine qt F0 B F H Y Z _ _ rs h1 λvs F' H' x l=>?_;cases l with
 |cons h t=>
  cases t;rename_i d v;cases d with
  |lst xs=>cases h2;obtain⟨a,vs,rfl,ha,hp⟩:=h.lst x.fh;exact⟨a,rfl,⟨vs,ha⟩,w _ F' H' x<|RA hp λF2 H2 s1 s2 s3=>s2.seq ha⟩
  |_=>cases h2
variable {p1:mR}
theorem Ow.lst_inv {v:V}(h:Ow K J F H (k+1) (.lst O) v fp):∃a vs fr,v=.ref a/\fp=a::fr/\F a=G/\H a=U (.lst vs)/\iH (Ow K J F H k) O vs fr:=by
 rcases h with⟨h,_⟩|h
 ·cases h
 ·cases h with
  |lst h1 h2 h3=>exact⟨_,_,_,rfl,rfl,h1,h2,h3⟩
theorem Ow.dK_inv {v:V}(h:Ow K J F H (k+1) (.dK ks O) v fp):∃a vs fr,v=.ref a/\fp=a::fr/\F a=G/\H a=U (.dK<|ks.zip vs)/\ks.length=vs.length/\iH (Ow K J F H k) O vs fr:=by
 rcases h with⟨h,_⟩|h
 ·cases h
 ·cases h with
  |dK h1 h2 h3 h4=>exact⟨_,_,_,rfl,rfl,h1,h2,h3,h4⟩
theorem Ow.dT_inv {ks:List (List kL)}{v:V}(h:Ow K J F H (k+1) (.dT ks O) v fp):∃a vs fr,v=.ref a/\fp=a::fr/\F a=G/\H a=U (.dT<|ks.zip vs)/\ks.length=vs.length/\iH (Ow K J F H k) O vs fr:=by
 rcases h with⟨h,_⟩|h
 ·cases h
 ·cases h with
  |dT h1 h2 h3 h4=>exact⟨_,_,_,rfl,rfl,h1,h2,h3,h4⟩
theorem RS.change {d':D}{v:V}{f1 fr fn:List cN}{ad:cN}{o:HO}(rs:RS K J F0 B S F H Y Z)(hm:S[i]?=U (.ow k))(x:kR F H F' H')
  (hσ:Z[i]?=U (U v)) (b1:∀a∈f1,B a=G) (dj:∀a∈f1,a∉fr) (cf:∀a∈fr,F a=G/\∃o,H a=U o/\oR o)
  (put:∀(F' H':Hp) (d':D) (v':V) (f':List cN),ej F F'->ej B H'->ej F' H'->(∀a o,B a=U o->oR o->F0 a=G->F' a=G)->(∀a∈fr,H' a=H a/\F' a=G)->Ow K J F' H' k d' v' f'->f'.Nodup->(∀a∈f',a∉fr)->(∀a∈f',B a=G) ->
    RS K J F0 B S F' H' (Y.set i<|U d') (Z.set i<|U v'))
  (NE:ad∈f1) (Tp:F' ad=G) (o':Ow K J F' (upd H' ad o) k d' v fn) (nd:fn.Nodup) (Fd:∀a∈fn,a∈f1\/H a=G):RS K J F0 B S F' (upd H' ad o) (Y.set i<|U d') Z:=by
 have r:=rs.ext x;have hB:B ad=G:=b1 ad NE;have res:=put F' (upd H' ad o) d' v fn x.ff (λz u h=>by rw[zo<|λe=>by rw[e,hB]at h;cases h];exact r.bh _ _ h) (λz u h=>by rw[zo<|λe=>by rw[e,Tp]at h;cases h];exact x.fh _ _ h) r.nf
  (λz hz=>by obtain⟨hn,o,ho,nt⟩:=cf z hz;refine⟨?_,x.nf z o ho nt hn⟩;have ne:z≠ad:=λe=>dj ad NE (by rw[←e];exact hz);rw[zo ne];exact(x.hh _ _ ho).trans ho.symm) o' nd
  (λz hz zr=>by
   rcases Fd z hz with h|h
   ·exact dj z h zr
   ·obtain⟨_,o,ho,nt⟩:=cf z zr;rw[h]at ho;cases ho)
  (λz hz=>(Fd z hz).elim (b1 z) λh=>rs.bh.free h)
 have e:Z.set i (U v) = Z:=by
  apply nN;intro j;by_cases hj:i=j
  ·subst hj;rw[f6 (by have:=dM.mp hσ;exact this.1),hσ]
  ·rw[jT hj]
 rw[e]at res;exact res
def å (i:Nat)(f:EF):SF:=λY=>(M i Y).bind λo=>(f Y).bind λd=>match o with
 |.lst O=>if O.length<16777216 then U (.nx<|Y.set i<|U<|.lst<|O++[d])else G
 |_=>G
theorem x6 (i:Nat)(hm:S[i]?=U (.ow<|k+1))(he:XO X J S k e f)(hN:X.N[i]?=U x:=by rfl)(hv:rZ X.env.scope x:=by walk_at "v1")(hd:kW x:=by decide)
  (kT:sU x:=by decide) (lE:SE X e []:=by rfl)
  (kh:mz (.Name x p1) "append" X.env (eW (.Name x p1) X.env)=eW (.Name x p1) X.env:=by rfl)
  (nF:Bm X eY [e]:=by rfl)
  (ki:(fL.endLine==eY.line)=Â:=by rfl) (iw:pW X eY []:=by rfl)
  (Bz:gk (.Call (.Attribute (.Name x p1) "append" fL) [e] [] eY) G pos.line X.env=pure Ã:=by rfl) :
  XS X J S rk (.Expr (.Call (.Attribute (.Name x p1) "append" fL) [e] [] eY) pos) (å i f):=by
 obtain⟨t,pt,qt⟩:=he;refine⟨_,IT (Ca PySem.F.plainAttrs_list PySem.F.slot_list_append PySem.F.type_list_append LP (xm hN hv hd kT) (ye pt xx lE) kh nF ki lE iw) Bz,λF0 B F H Y Z o E rs e z=>?_⟩;obtain⟨d1,d2,h1,h2,h3⟩:=fu e;obtain⟨f1,fr,n1,b1,dj,i4,cf,put⟩:=rs.put (F':=F) (H':=H) hm;obtain⟨v,hσ,ow⟩:=i4 d1<|zp h1;refine⟨v,hσ,?_⟩;cases d1 with
 |lst O=>
  dsimp only at h3;by_cases hz:O.length<16777216
  ·rw[if_pos hz]at h3;cases h3;obtain⟨ad,vs,Bq,rfl,rfl,hF,hH,ol⟩:=ow.lst_inv;refine⟨.inl ⟨rfl,_,iE.of hH⟩,qt F0 B F H Y Z d2 _ rs h2 λv2 F' H' fp x1 o2 Ew B0=>?_⟩;have hA:H' ad=U (.lst vs):=x1.hh _ _ hH;have fA:F' ad=G:=x1.nf ad _ hH nofun hF;have nA:∀a∈fp,a≠ad:=λa hz e=>by rw[e]at hz;rw[B0 ad hz]at hH;cases hH
   have Fh:=dO.mp n1;refine⟨ad,vs,v2,rfl,rfl,hA,by rw[←ol.length,dW];exact hz,?_⟩;refine z Z F' _<|rs.change hm x1 hσ b1 dj cf put cK fA (.inr<|.lst fA zu<|(ol.mono λ_ _ f' hi o'=>?_).append<|.cons (f:=fp) ?_ .nil) (fn:=ad::(Bq++(fp++[]))) ?_ ?_
   ·refine(o'.ext x1).frame (.refl _) λa ha=>⟨zo λe=>Fh.1 (e▸hi a ha),((o'.ext x1).cells a ha).1⟩
   ·exact o2.frame (.refl _) λa ha=>⟨zo<|nA a ha,(o2.cells a ha).1⟩
   ·rw[dU];refine dO.mpr ⟨λhz=>?_,c8.mpr ⟨Fh.2,Ew,λa ha b hb e=>?_⟩⟩
    ·rcases dc.mp hz with hz|hz
     ·exact Fh.1 hz
     ·exact nA ad hz rfl
    ·subst e;obtain⟨_,o,ho,_⟩:=iH.cellsOf ol a ha;rw[B0 a hb]at ho;cases ho
   ·intro a ha;rw[dU]at ha;rcases cP.mp ha with rfl|ha
    ·exact .inl cK
    ·rcases dc.mp ha with ha|ha
     ·exact .inl<|cQ _ ha
     ·exact .inr<|B0 a ha
  ·rw[if_neg hz]at h3;cases h3
 |_=>cases h3
def vN (O:List D)(i:Int)(d:D):Option (List D):=(ó O.length i).bind λj=>U<|O.set j d
noncomputable def pQ [DecidableEq κ](ks:List κ)(O:List D)(k:κ)(d:D):List κ×List D:=if ks.contains k=Â then(ks,(ks.zip O).map λp=>if p.1=k then d else p.2)else(ks++[k],O++[d])
theorem iH.set0 {R:D->V->List cN->Prop}{d:D}{v:V}(r:R d v [])(z:∀d v f,R d v f->f=[]):∀{O:List D} {vs:List V} {fp:List cN} (i:Nat),iH R O vs fp->iH R (O.set i d) (vs.set i v) []
 |_,_,_,_,.nil=>.nil
 |_,_,_,0,.cons h t=>by have:=iH.cons (f:=[]) (g:=[]) r (iH.ofPr<|t.pr λd v f _ q=>by have:=z _ _ _ q;subst this;exact q);exact this
 |_,_,_,i+1,.cons h t=>by have e:=z _ _ _ h;subst e;exact iH.cons (f:=[]) (g:=[]) h<|iH.set0 r z i t
theorem Ow.nil0 {v:V}(h:Ow K J F H 0 d v fp):fp=[]:=h.2
theorem iH.nil0 {vs:List V}(h:iH (Ow K J F H 0) O vs fp):fp=[]:=by
 induction h with
 |nil=>rfl
 |cons h t ih=>rw[h.nil0,ih];rfl
variable {l:cN}
theorem K6 {cM:List (cN×gz)}{s:cU}{xs:List V}(I:Ê X cM Z H s)(hH:Rd H l<|.lst xs):xs.length<=sizeLine/\∃(eE:List cJ) (n:Nat),ez xs eE/\xs.length=eE.length/\s.heap.get? l=U { cls:=.type "list",data:=.seq eE.toArray n }:=by obtain⟨z,eE,n,r,e⟩:=hH.ok I.hok;exact⟨z,eE,n,r,r.length,e⟩
def DF (K:cL):R2:=λx y H Q=>∃l b xs zs,x=.ref l/\y=.ref b/\iE K H l xs/\iE K H b zs/\xs.length+zs.length<=sizeLine/\∀p,H p=G->Q (.ref p) (upd H p<|.lst<|xs++zs)
theorem zud:lU X (ik .Add) (DF X.K):=by
 intro cM s Z H x y v u Q I rx ry h;obtain⟨l,b,xs,zs,rfl,rfl,hH,hB,hz,q⟩:=h;cases rx;cases ry;obtain⟨eE,r,⟨⟨cls,dd,data,sl⟩,n,e,c1,c2,c3⟩,z⟩:=I.list hH;obtain⟨CJ,r2,⟨⟨JM,HL,data2,BP⟩,n2,L,c4,c5,c6⟩,z2⟩:=I.list hB;simp only at c1 c3 c4 c6;subst c1 c3 c4 c6;have hl:=r.length;have Ff:=r2.length;refine AX ⟨_,e,rfl⟩ ⟨_,L,rfl⟩ noFill_list_add seq_list_add PySem.F.slot_list_add PySem.F.entry_list_add (PySem.F.args_list_add_2 _ _) (list_addW l b eE.toArray CJ.toArray n n2 dd HL sl BP<|by rw[de,de];lia) ⟨e,L,?_⟩;have ea:eE.toArray++CJ.toArray=(eE++CJ).toArray:=by simp
 rw[ea];exact⟨.ref _,_,I.lnew (t':=s.toks) (r.append r2)<|by rw[ee];lia,rfl,q _ I.fresh⟩
def G1:R2:=λx y H Q=>∃i j,x=.str i/\y=.str j/\i.length+j.length<=sizeLine/\Q (.str<|i++j) H
def CP (K:cL):R2:=λx y H Q=>yH (λi j=>.int<|i+j) x y H Q\/G1 x y H Q\/DF K x y H Q\/DG K x y H Q
theorem MD:lU X (ik .Add) (CP X.K):=lU.or Τ<|lU.or X4<|lU.or zud ztk
def dL:D->D->Option D
 |.int i,.int j=>U<|.int<|i+j
 |.str x,.str y=>if x.length+y.length<=16777216 then U (.str<|x++y)else G
 |.lst xs,.lst ys=>if xs.length+ys.length<=16777216 then U (.lst<|xs++ys)else G
 |.tup xs,.tup ys=>if xs.isEmpty=Ã/\ys.isEmpty=Ã/\xs.length+ys.length<=1000000 then U (.tup<|xs++ys)else G
 |_,_=>G
theorem Pr.ow0 {vs:List V}(h:Pr (Al K J F V' 0) O vs):iH (Ow K J F H 0) O vs []:=iH.ofPr<|h.mono λ_ _ q=>⟨q,rfl⟩
theorem Al.lst1 {v:V}(hn:n<=1)(h:Al K J F V' n (.lst O) v)(s:ej F V'):∃a vs,v=.ref a/\iE K V' a vs/\Pr (Al K J F V' 0) O vs:=by
 obtain⟨a,vs,e,h1,h2⟩:=h.lst s;have:n-1=0:=by lia
 rw[this]at h2;exact⟨a,vs,e,h1,h2⟩
theorem Al.tup1 {v:V}(hn:n<=1)(h:Al K J F V' n (.tup O) v)(s:ej F V'):∃a vs,v=.ref a/\V' a=U (.tup vs)/\Pr (Al K J F V' 0) O vs:=by
 obtain⟨a,vs,e,h1,h2⟩:=h.tup s;have:n-1=0:=by lia
 rw[this]at h2;exact⟨a,vs,e,h1,h2⟩
theorem v9 {vs:List V}{Q:VK}(s:ej F H)(hp:Pr (Al K J F H 0) O vs)(w:∀v F' H' fp,kR F H F' H'->Ow K J F' H' 1 (.lst O) v fp->fp.Nodup->(∀a∈fp,H a=G)->Q v H'):∀p,H p=G->Q (.ref p) (upd H p<|.lst vs):=λp h0=>by obtain⟨o,nd⟩:=Qz s (hp.ow0 (H:=H)) h0;exact w _ F _ [p] (kR.newO s h0 _) o (nd dZ) λa z=>by rw[ef]at z;subst z;exact h0
theorem QN (hn:n<=1)(hm:m<=1):FL K J n m 1 (CP K) dL:=by
 intro F H x y d1 d2 d Q s l1 l2 e w;have ws:∀d v,d.sc=Â->Dt K J F d v->(∀v F' H' fp,kR F H F' H'->Ow K J F' H' 1 d v fp->fp.Nodup->(∀a∈fp,H a=G)->Q v H')->Q v H:=λd v hs hd w=>w v F H [] (.refl s) (Ow.scal hd hs) dZ λa z=>(by cases z);cases d1 with
 |int i=>
  cases d2 with
  |int j=>cases e;exact .inl ⟨i,j,l1.int,l2.int,ws _ _ rfl (.int _) w⟩
  |_=>cases e
 |str i=>
  cases d2 with
  |str j=>
   unfold dL at e;dsimp only at e;by_cases hz:i.length+j.length<=16777216
   ·rw[if_pos hz]at e;cases e;exact .inr (.inl ⟨i,j,l1.str,l2.str,by rw[dW];exact hz,ws _ _ rfl (.str _) w⟩)
   ·rw[if_neg hz]at e;cases e
  |_=>cases e
 |lst xs=>
  cases d2 with
  |lst ys=>
   unfold dL at e;dsimp only at e;by_cases hz:xs.length+ys.length<=16777216
   ·rw[if_pos hz]at e;cases e;obtain⟨a,vs,rfl,ha,hp⟩:=Al.lst1 hn l1 s;obtain⟨b,us,rfl,hb,hq⟩:=Al.lst1 hm l2 s;exact .inr (.inr<|.inl ⟨a,b,vs,us,rfl,rfl,ha,hb,by rw[←hp.length,←hq.length,dW];exact hz,v9 s (hp.append hq) w⟩)
   ·rw[if_neg hz]at e;cases e
  |_=>cases e
 |tup xs=>
  cases d2 with
  |tup ys=>
   unfold dL at e;dsimp only at e;by_cases hz:xs.isEmpty=Ã/\ys.isEmpty=Ã/\xs.length+ys.length<=1000000
   ·rw[if_pos hz]at e;cases e;obtain⟨a,vs,rfl,ha,hp⟩:=Al.tup1 hn l1 s;obtain⟨b,us,rfl,hb,hq⟩:=Al.tup1 hm l2 s;have hl:=hp.length;have Ff:=hq.length;have e1:vs≠[]:=λz=>by rw[z]at hl;have:=wI.mp hl;rw[this]at hz;exact absurd hz.1 (by decide)
    have L:us≠[]:=λz=>by rw[z]at Ff;have:=wI.mp Ff;rw[this]at hz;exact absurd hz.2.1 (by decide)
    refine .inr (.inr<|.inr ⟨a,b,vs,us,rfl,rfl,pX.of ha,pX.of hb,e1,by rw[←hl,←Ff,dW];lia,λz=>absurd z L,λ_ p h0=>?_⟩);have x2:=kR.newS s h0<|.tup<|vs++us;exact w _ _ _ [] x2 (.inr<|.tup zu<|iH.ofPr<|(hp.append hq).mono λ_ _ q=>⟨Dt.mono x2.ff q,rfl⟩) dZ λa z=>(by cases z)
   ·rw[if_neg hz]at e;cases e
  |_=>cases e
 |_=>cases e
def G7:R2:=λx y H Q=>∃l k xs,x=.ref l/\y=.int k/\Rd H l (.lst xs)/\-(2 ^ 63)<=k/\k<2 ^ 63/\xs.length*k.toNat<=sizeLine /\
 ∀p,H p=G->Q (.ref p) (upd H p<|.lst (cY k.toNat xs).flatten)
theorem zue:lU X (ik .Mult) G7:=by
 intro cM s Z H x y v u Q I rx ry h;obtain⟨l,k,xs,rfl,rfl,hH,h1,h2,hz,q⟩:=h;cases rx;obtain⟨t,rfl⟩:=ry;obtain⟨z,eE,n,r,hl,e⟩:=K6 I hH;have lO:eE.toArray.size*k.toNat<=sizeLine:=by rw[de,←hl];exact hz
 have rK:¬eE.toArray.size*k.toNat > (2 ^ 63-1)/8:=by
  have:(sizeLine:Nat)<=(2 ^ 63-1)/8:=by decide
  lia
 have Kc:¬(!Builtin.List.listFitsIndex k)=Â:=by rw[fitsIndex_both h1 h2];exact cZ
 have Gr:¬Builtin.List.listTooLong (eE.toArray.size*k.toNat)=Â:=by rw[BH lO];exact cZ
 have Ea:As (λx1 x2=>x1++x2) #[] (cY (if eE.toArray.isEmpty=Â then 0 else k.toNat) eE.toArray)=(cY k.toNat eE).flatten.toArray:=by
  have f0:∀m:Nat,As (λx1 x2=>x1++x2) #[] (cY m eE.toArray)=(cY m eE).flatten.toArray:=λm=>by have:=O7 eE m [];rw[List.nil_append]at this;exact this
  rw[f0];cases eE with
  |nil=>simp
  |cons a r'=>rw[if_neg<|by simp]
 refine wpAny_binaryOp_repeat_ref (T:="list") (U:="int") (by decide) ⟨_,e,rfl⟩ (λs'=>Df s' k t) noFill_list_mul F.fills_int_mul F.slot_int_rmul repeat_list F.slot_int_index.lookup
  (my F.slot_int_rmul (Df s k t) F.entry_int_rmul (F.args_int_rmul_2 _ _) (int___rmul___int_list k t l eE.toArray n)
   ⟨e,rfl,⟨_,e,rfl⟩,my F.slot_list_mul ⟨_,e,rfl⟩ F.entry_list_mul (F.args_list_mul_2 _ _) (AutoListH.list___mul___list_int_3 l eE.toArray n k t Kc rK Gr) ⟨e,?_⟩⟩)
 rw[Ea];exact⟨.ref _,_,I.lnew (t':=s.toks) (r.rep k.toNat)<|by rw[ztm,Nat.mul_comm];exact hz,rfl,q _ I.fresh⟩
theorem Zn:sV K J n m k (rI vE λi j=>.int<|i*j) jY:=zt7
def wC:D->D->Option D
 |.lst xs,.int j=>if -1000000<j/\j<1000000/\xs.length<=16 then U (.lst (cY j.toNat xs).flatten)else G
 |_,_=>G
theorem HE (ha:XO X J S 1 a f)(hb:XE X J S m b g):XO X J S 1 (.BinOp a .Mult b pos) (L wC f g):=by
 obtain⟨ta,pa,qa⟩:=ha;obtain⟨tb,pb,qb⟩:=hb;refine⟨_,Jw zue pa pb,λF0 B F H Y Z d Q rs e w=>?_⟩;obtain⟨d1,d2,h1,h2,h3⟩:=fu e;refine qa F0 B F H Y Z d1 _ rs h1 λv F1 H1 fp x1 o nd hf=>?_;refine qb F0 B F1 H1 Y Z d2 _ (rs.ext x1) h2 λv2 F2 H2 x2 l2=>?_;cases d1 with
 |lst xs=>
  cases d2 with
  |int j=>
   unfold wC at h3;dsimp only at h3;by_cases hz:-1000000<j/\j<1000000/\xs.length<=16
   ·rw[if_pos hz]at h3;cases h3;obtain⟨ad,vs,fr,rfl,rfl,hF,hH,ol⟩:=(o.ext x2).lst_inv;have hp:Pr (Al X.K J F2 H2 0) xs vs:=ol.pr λ_ _ _ _ q=>q.1;have Ho:=x1.trans x2;refine⟨ad,j,vs,rfl,l2.int,.inl hH,by lia,by lia,?_,v9 x2.fh (hp.rep _) λv F' H' fp x o nd hf=>w v F' H' fp (Ho.trans x) o nd λz hz=>Ho.hh.free<|hf z hz⟩;rw[←hp.length,dW];have h1:j.toNat<=1000000:=by lia
    have h2:xs.length*j.toNat<=16*1000000:=vC hz.2.2 h1;lia
   ·rw[if_neg hz]at h3;cases h3
  |_=>cases h3
 |_=>cases h3
def vX:D->Option D
 |.int i=>U<|.int<|-i
 |_=>G
theorem Fv (ha:XE X J S n a f):XE X J S k (.UnaryOp .USub a pos) (e1 vX f):=by
 refine ŏ Ξ (λF H x d1 d Q s l e w=>?_) ha;cases d1 with
 |int i=>cases e;exact⟨i,l.int,w _ F H (.refl s)<|Al.of<|.int _⟩
 |_=>cases e
theorem zuf {u:cJ}(hg:Gl X x)(hm:X.mg x=U u)(hs:d.sc=Â)(r:Ì d.v u)(hd:kW x:=by decide):XE X J S n (.Name x pos) (eC d):=by
 refine⟨_,Mw hg hm r hd,λF0 B F H Y Z d' Q rs e w=>?_⟩;cases e;refine w _ F H (.refl rs.fh)<|Al.of ?_;cases d with
 |non=>exact .non
 |bl b=>exact .bl b
 |int b=>exact .int b
 |str b=>exact .str b
 |_=>cases hs
def Aj:List D->Option D
 |[.lst O]=>U<|.lst O
 |[.tup O]=>U<|.lst O
 |_=>G
theorem LW (hn:n<=1):FM K J [n] 1 (λxs H Q=>∃p ys,xs=[.ref p]/\(iE K H p ys\/pX K H p ys)/\∀l,H l=G->Q (.ref l) (upd H l<|.lst ys)) Aj:=by
 intro F H vs O d Q s l e w;cases l with
 |cons h t=>
  cases t;rename_i d1 v;cases d1 with
  |lst xs=>cases e;obtain⟨a,us,rfl,ha,hp⟩:=Al.lst1 hn h s;exact⟨a,us,rfl,.inl ha,v9 s hp w⟩
  |tup xs=>cases e;obtain⟨a,us,rfl,ha,hp⟩:=Al.tup1 hn h s;exact⟨a,us,rfl,.inr<|pX.of ha,v9 s hp w⟩
  |_=>cases e
abbrev PF:=Env->Option (Option Int)
def ð:PF:=λ_=>U G
def à (f:EF):PF:=λY=>(f Y).bind λd=>match d with
 |.int i=>U<|U i
 |_=>G
def XP (X:Cx)(J:Nat->cN)(S:List Mo)(e:Option Expr)(f:PF):Prop:=∃t,PO X e t/\∀(F0 B F H:Hp) (Y:Env) (Z:St) (o:Option Int) (Q:Option Int->Hp->Prop),RS X.K J F0 B S F H Y Z->f Y=U o->(∀F' H',kR F H F' H'->Q o H')->t Z H Q
theorem Cc:XP X J S G ð:=⟨_,zti,λF0 B F H Y Z o Q rs e w=>by cases e;exact w F H<|.refl rs.fh⟩
theorem wj (h:XE X J S n e f):XP X J S (U e) (à f):=by
 obtain⟨t,pt,qt⟩:=h;refine⟨_,ztj pt,λF0 B F H Y Z o Q rs e w=>?_⟩;obtain⟨d,h1,h2⟩:=c9 e;refine qt F0 B F H Y Z d _ rs h1 λv F' H' x l=>?_;cases d with
 |int i=>cases h2;exact⟨i,l.int,w F' H' x⟩
 |_=>cases h2
def ã (xs:List D)(lo hi:Option Int):List D:=(xs.drop<|HT.sIx xs.length 0 lo).take<|HT.sIx xs.length xs.length hi-HT.sIx xs.length 0 lo
theorem zug {vs:List V}{lo hi:Option Int}(h:Pr R O vs):Pr R (ã O lo hi) (AF vs lo hi):=by unfold ã AF;rw[h.length];exact(h.drop _).take _
def gP (d:D)(lo hi:Option Int):Option D:=match d with
 |.lst xs=>U<|.lst<|ã xs lo hi
 |_=>G
theorem wd {lo hi:Option Expr}{pl ph:PF}{p1}(hn:n<=1)(he:XE X J S n e f)(hl:XP X J S lo pl)(hh:XP X J S hi ph):XO X J S 1 (.Subscript e (.Slice lo hi G p1) pos) (λY=>(f Y).bind λd=>(pl Y).bind λl=>(ph Y).bind λh=>gP d l h):=by
 obtain⟨t,pt,qt⟩:=he;obtain⟨t1,zP,zQ⟩:=hl;obtain⟨t2,vY,wB⟩:=hh;refine⟨_,PR ztl pt zP vY,λF0 B F H Y Z r Q rs e w=>?_⟩;obtain⟨d,l,h1,h2,h3⟩:=fu e;obtain⟨hh,h4,h5⟩:=c9 h3;refine qt F0 B F H Y Z d _ rs h1 λv F1 H1 x1 l1=>?_;refine zQ F0 B F1 H1 Y Z l _ (rs.ext x1) h2 λF2 H2 x2=>?_;refine wB F0 B F2 H2 Y Z hh _ ((rs.ext x1).ext x2) h4 λF3 H3 x3=>?_;cases d with
 |lst xs=>cases h5;have tE:=x2.trans x3;obtain⟨a,vs,rfl,ha,hp⟩:=Al.lst1 hn (l1.mono tE.ff tE.hh) tE.fh;exact⟨a,vs,rfl,ha,v9 tE.fh (zug hp) λv F' H' fp x o nd hf=>w v F' H' fp ((x1.trans tE).trans x) o nd λz hz=>(x1.trans tE).hh.free<|hf z hz⟩
 |_=>cases h5
def AK:List D->Option D
 |[.int i]=>U<|.int i
 |[.bl b]=>U<|.int<|if b then 1 else 0
 |_=>G
theorem zuh:BX K J [n] k (λxs H Q=>(∃i,xs=[.int i]/\Q (.int i) H)\/∃b,xs=[.bl b]/\Q (.int<|if b then 1 else 0) H) AK:=by
 intro F H vs O d Q s l e w;cases l with
 |cons h t=>
  cases t;rename_i d1 v;cases d1 with
  |int i=>cases e;exact .inl ⟨i,by rw[h.int],w _ F H (.refl s)<|Al.of<|.int _⟩
  |bl i=>cases e;exact .inr ⟨i,by rw[h.bl],w _ F H (.refl s)<|Al.of<|.int _⟩
  |_=>cases e
def JJ:List D->Option D
 |[.int i]=>U<|.int<|if i<0 then -i else i
 |_=>G
def ii (g:Int->Int->D):List D->Option D
 |[.int i,.int j]=>U<|g i j
 |_=>G
theorem ų {g:Int->Int->D}(hg:∀i j F,Dt K J F (g i j)<|gv i j):BX K J [n,m] k (λxs H Q=>∃i j,xs=[.int i,.int j]/\Q (gv i j) H) (ii g):=by
 intro F H vs O d Q s l e w;cases l with
 |cons h t=>
  cases t with
  |cons h' t=>
   cases t;rename_i d1 v d2 v2;cases d1 with
   |int i=>
    cases d2 with
    |int j=>cases e;exact⟨i,j,by rw[h.int,h'.int],w _ F H (.refl s)<|Al.of<|hg i j F⟩
    |_=>cases e
   |_=>cases e
def vJ:List D->Option D:=ii λi j=>.int<|if j > i then j else i
def GN:List D->Option D:=ii λi j=>.int<|if j<i then j else i
theorem LX:BX K J [n,m] k (λxs H Q=>∃i j,xs=[.int i,.int j]/\Q (.int<|if j > i then j else i) H) vJ:=ų λ_ _ _=>.int _
def CT (i:Nat)(o:D->D->Option D)(f:EF):SF:=λY=>(M i Y).bind λx=>(f Y).bind λy=>(o x y).bind λd=>U<|.nx<|Y.set i<|U d
theorem MZ {gi:Int->Int->Int}(ho:E3 X op<|Im gi)(hm:S[i]?=U (.ow k))(hN:X.N.Nodup)(hi:X.N[i]?=U x)(hx:ë X.env.scope x)(he:XE X J S n e f)(hf:uQ X x:=by walk_at "v2") :
  XS X J S rk (.AugAssign (.Name x pos') op e pos) (CT i (i2 λi j=>.int<|gi i j) f):=by
 obtain⟨t,pt,qt⟩:=he;refine⟨_,Υ hN hi hx pt ho hf,λF0 B F H Y Z o E rs e z=>?_⟩;obtain⟨d1,d2,h1,h2,h3⟩:=fu e;obtain⟨d,h4,h5⟩:=c9 h3;cases h5;obtain⟨v,hv,l⟩:=rs.get hm<|zp h1;refine⟨v,hv,qt F0 B F H Y Z d2 _ rs h2 λy F' H' x1 l2=>?_⟩;cases d1 with
 |int i'=>
  cases d2 with
  |int j'=>cases h4;exact⟨i',j',l.int,l2.int,z _ F' H'<|rs.set hm x1 (Ow.scal (.int _) rfl) dZ λa z=>(by cases z)⟩
  |_=>cases h4
 |_=>cases h4
def ÿ (i j:Nat)(fs:Env->Option (List D)):SF:=λY=>(fs Y).bind λO=>match O with
 |[x,y]=>U<|.nx<|(Y.set i<|U x).set j<|U y
 |_=>G
def Ā (g:D->Env->Option Env)(f:EF):SF:=λY=>(f Y).bind λd=>(g d Y).bind λρ'=>U<|.nx ρ'
noncomputable def m8:List Nat->List Mo->Bool
 |[],_=>Â
 |n::ns,.al m::S=>decide (n=m)&&m8 ns S
 |n::ns,.ow m::S=>decide (n=0)&&decide (m=0)&&m8 ns S
 |_,_=>Ã
theorem IM:∀{pm:List Nat} {S:List Mo},m8 pm S=Â->∀(i n:Nat),pm[i]?=U n->S[i]?=U (Mo.al n)\/(n=0/\S[i]?=U (Mo.ow 0))
 |[],_,_,i,n,e=>by simp at e
 |x::ns,.al m::S,h,i,n,e=>by
  simp only[m8,dE,decide_eq_true_eq]at h;cases i with
  |zero=>simp at e;subst e;rw[h.1];exact .inl rfl
  |succ i=>simpa using IM h.2 i n (by simpa using e)
 |x::ns,.ow m::S,h,i,n,e=>by
  simp only[m8,dE,decide_eq_true_eq]at h;cases i with
  |zero=>simp at e;subst e;rw[h.1.1,h.1.2];exact .inr ⟨rfl,rfl⟩
  |succ i=>simpa using IM h.2 i n (by simpa using e)
 |_::_,[],h,_,_,_=>by simp[m8]at h
 |_::_,.px _::_,h,_,_,_=>by simp[m8]at h
 |_::_,.so _::_,h,_,_,_=>by simp[m8]at h
def Dn (X:Cx)(scope:rY)(N:List Str)(own:Nat)(cap:List Nat):Bool :=
 decide (scope.kind=.function)&&scope.names.all (λx=>(decide (x.2≠.cell) || decide (scope.names.lookup x.1=U .cell))&&(decide (x.2≠.local) || decide (scope.names.lookup x.1=U .local))&&(decide (x.2≠.free) || (decide (X.env.kindOf x.1=U .cell) || decide (X.env.kindOf x.1=U .free)))) &&
 decide (N.length=own+cap.length)&&(eF cap.length).all λj=>match N[own+j]?,cap[j]? with
  |some x,U i=>decide (X.N[i]?=U x)&&decide (scope.names.lookup x=U .free)
  |_,_=>Ã
theorem M0 {own:Nat}(h:Dn X scope N own cap=Â):pB X scope N own cap:=by
 unfold Dn at h;simp only[dE,decide_eq_true_eq,gL,jC]at h;obtain⟨⟨⟨h1,h2⟩,h3⟩,h4⟩:=h;refine⟨h1,λx hx hl=>((h2 x hx).1.1).elim (λz=>absurd hl z) id,λx hx hl=>((h2 x hx).1.2).elim (λz=>absurd hl z) id,λx hx hf=>((h2 x hx).2).elim (λz=>absurd hf z) id,h3,λj x hj=>?_⟩;have Kh:j<cap.length:=by have:=(dM.mp hj).1;lia
 have q:=h4 j<|fM.mpr Kh;rw[hj]at q;have hc:cap[j]?=U cap[j]:=by simp[Kh]
 rw[hc]at q;simp only[dE,decide_eq_true_eq]at q;exact⟨_,hc,q.1,q.2⟩
def IC:D->Option String
 |.non=>U "NoneType"
 |.bl _=>U "bool"
 |.int _=>U "int"
 |.str _=>U "str"
 |.lst _=>U "list"
 |.tup _=>U "tuple"
 |.dK _ _=>U "dict"
 |_=>G
def Ov (K:cL)(H:Hp)(v:V)(t:String):Prop:=qT K H v (.type t)\/(t = "list"/\∃a xs,v=.ref a/\iE K H a xs)
theorem Al.ty {v:V}{t:String}(s:ej F H)(h:Al K J F H n d v)(e:IC d=U t):Ov K H v t:=by
 cases d with
 |non=>cases e;rw[h.non];exact .inl .non
 |bl b=>cases e;rw[h.bl];exact .inl<|.bl b
 |int b=>cases e;rw[h.int];exact .inl<|.int b
 |str b=>cases e;rw[h.str];exact .inl<|.str b
 |lst xs=>cases e;obtain⟨a,vs,rfl,ha,_⟩:=h.lst s;exact .inr ⟨rfl,a,vs,rfl,ha⟩
 |tup xs=>cases e;obtain⟨a,vs,rfl,ha,_⟩:=h.tup s;exact .inl<|.tup ha
 |dK ks xs=>cases e;obtain⟨a,vs,rfl,ha,_⟩:=h.dK s;exact .inl<|.dK ha
 |_=>cases e
theorem Y3:jK X (.builtin "isinstance") (λxs H Q=>∃x c t b,xs=[x,.ty c]/\Ov X.K H x t/\iG X.K (.type t) (.type c)=U b/\Q (.bl b) H):=by
 intro cM s Z H xs us Q I r h;obtain⟨x,c,t,b,rfl,ty,e,q⟩:=h;rcases ty with ty|⟨rfl,a,ys,rfl,hq⟩
 ·exact ZK cM s Z H _ us Q I r ⟨x,c,_,b,rfl,ty,e,q⟩
 ·obtain⟨u,w',rfl,ru,uY⟩:=õ r;cases(show w'=cJ.type c from uY);cases(show u=cJ.ref a from ru);obtain⟨eE,rv,⟨o,n,h1,h2,_⟩,_⟩:=I.list hq;exact fC rj I.kIn ⟨o,h1,h2⟩ e (λz=>nomatch z) λtk=>⟨.bl b,H,I.tok tk,rfl,q⟩
noncomputable def GC (t c:String):Bool:=t==c || (t == "bool" && c == "int")
theorem zui:∀t∈(["NoneType","bool","int","str","list","tuple","dict"]:List String),∀c∈(["bool","int","str","list","tuple","dict"]:List String),iG K (.type t) (.type c)=U (GC t c):=by intro t ht c hc;simp only[cP,dm,or_false]at ht hc;rcases ht with rfl|rfl|rfl|rfl|rfl|rfl|rfl<;>rcases hc with rfl|rfl|rfl|rfl|rfl|rfl<;>rfl
theorem zuj {t:String}(e:IC d=U t):t∈(["NoneType","bool","int","str","list","tuple","dict"]:List String):=by cases d<;>simp[IC]at e<;>subst e<;>decide
variable {p2:mR}
def tW (c:String)(d:D):Option D:=(IC d).bind λt=>U<|.bl<|GC t c
theorem Fw {c:String}(hc:c∈(["bool","int","str","list","tuple","dict"]:List String))(hm:X.mg "isinstance"=G)(Ai:X.mg c=G)(hb:eP c=U (.type c))(he:XE X J S n e f)(hg:Gl X "isinstance":=by rfl)(Bw:Gl X c:=by rfl)(Dv:Str.ofString c≠"__name__":=by decide)(hd2:(Str.ofString c==("__debug__":Str))=Ã:=by decide)
  (Eg:dJ [e,.Name c p2] X.env=(Ã,eW e X.env)::dJ [.Name c p2] X.env:=by rfl) (uU:dJ [.Name c p2] X.env=(Ã,eW (.Name c p2) X.env)::dJ [] X.env:=by rfl) (lW:(i8 pos<|dJ [.Name c p2] X.env).any (·.1)=Ã:=by rfl) :
  XE X J S k (.Call (.Name "isinstance" pp) [e,.Name c p2] [] pos) (e1 (tW c) f):=by
 obtain⟨t,pt,qt⟩:=he;refine⟨_,L8 Y3 hg hm ja (ye pt (ye (zs6 (v:=.ty c) Bw Ai hb rfl Dv hd2) xx uU) Eg) (by decide) (by decide) Eg lW,λF0 B F H Y Z d Q rs e w=>?_⟩;obtain⟨d1,h1,h2⟩:=c9 e;obtain⟨ty,h3,h4⟩:=c9 h2;cases h4;exact qt F0 B F H Y Z d1 _ rs h1 λv F' H' x l=>⟨v,c,ty,_,rfl,l.ty x.fh h3,zui _ (zuj h3) _ hc,w _ F' H' x<|Al.of<|.bl _⟩
def vO (K:cL):Sp:=λvs H Q _=>∃(a:cN) (ns:List Int),vs=[.ref a]/\iE K H a (ns.map V.int)/\ns.length<=63/\∀H',Q (.bl Â) H'
theorem â.ints {K:cL}{J:Nat->cN}{F:Hp}:∀ns:List Int,â K J F (ns.map D.int) (ns.map V.int)
 |[]=>.nil
 |n::ns=>.cons (.int n)<|â.ints ns
theorem Ų {w:d8}{base:c7}{f:cN}{fd:cT}{m:List D->Option D}(Fn:dR P w K mg base fQ k f fd ps<|iP K J [0] 0 m)
  (h:∀ns:List Int,ns.length<=63->m [.lst<|ns.map .int]=U (.bl Â)):dR P w K mg base fQ k f fd ps (vO K):=by
 have to:∀vs H Q E,vO K vs H Q E->iP K J [0] 0 m vs H Q E:=by
  rintro vs H Q E ⟨a,ns,rfl,hS,hl,q⟩;refine⟨H,[.lst<|ns.map .int],.bl Â,.refl _,.cons (Dt.lst hS<|â.ints ns) .nil,h ns hl,λv F' H' fp x o nd hf=>?_⟩;have hv:v=.bl Â:=by have o:Dt K J F' (.bl Â) v/\fp=[]:=o;cases o.1;rfl
  subst hv;exact q H'
 exact⟨λvs H Q E z=>Fn.len vs H Q E<|to vs H Q E z,λA outer s H args us vs Q E hr e0 hb hv z=>Fn.run A outer s H args us vs Q E hr e0 hb hv<|to vs H Q E z⟩
theorem Pp {g:D->Env->Option Env}{b:SF}(I:List D->Env->Prop)(all:List D)(st:∀pre d post Y,all=pre++d::post->I pre Y->∃ρ1 ρ2,g d Y=U ρ1/\(b ρ1=U (.nx ρ2)\/b ρ1=U (.ct ρ2))/\I (pre++[d]) ρ2):∀(O pre:List D) (Y:Env),all=pre++O->I pre Y ->
  ∃ρ',mn g b O Y=U (.nx ρ')/\I all ρ'
 |[],pre,Y,e,h=>⟨Y,rfl,by rw[e,dU];exact h⟩
 |d::O,pre,Y,e,h=>by obtain⟨ρ1,ρ2,h1,h2,h3⟩:=st pre d O Y e h;obtain⟨ρ',h4,h5⟩:=Pp I all st O (pre++[d]) ρ2 (by rw[e];simp) h3;refine⟨ρ',?_,h5⟩;show(g d Y).bind _=_;rw[h1];show(b ρ1).bind _=_;rcases h2 with h2|h2<;>(rw[h2];exact h4)
theorem Qf {g:D->Env->Option Env}{b:SF}(I:List D->Env->Prop)(h:I [] Y)(st:∀pre d post Y,O=pre++d::post->I pre Y->∃ρ1 ρ2,g d Y=U ρ1/\(b ρ1=U (.nx ρ2)\/b ρ1=U (.ct ρ2))/\I (pre++[d]) ρ2) :
  ∃ρ',mn g b O Y=U (.nx ρ')/\I O ρ':=Pp I O st O [] Y rfl h
theorem RB {all pre post:List α}{d:α}(h:all=pre++d::post):all[pre.length]?=U d:=by subst h;simp
theorem Pq {g:D->Env->Option Env}{b:SF}(I:Nat->Env->Prop)(lo:Int):∀(n k:Nat) (Y:Env),I k Y ->
  (∀j Y,k<=j->j<k+n->I j Y->∃ρ1 ρ2,g (.int<|lo+(j:Int)) Y=U ρ1/\(b ρ1=U (.nx ρ2)\/b ρ1=U (.ct ρ2))/\I (j+1) ρ2) ->
  ∃ρ',mn g b ((ip k n).map λ(t:Nat)=>D.int<|lo+(t:Int)) Y=U (.nx ρ')/\I (k+n) ρ'
 |0,k,Y,h,_=>⟨Y,rfl,h⟩
 |n+1,k,Y,h,st=>by obtain⟨ρ1,ρ2,h1,h2,h3⟩:=st k Y (di _) (by lia) h;obtain⟨ρ',h4,h5⟩:=Pq I lo n (k+1) ρ2 h3 λj Y hj hl hI=>st j Y (by lia) (by lia) hI;refine⟨ρ',?_,by rw[show k+(n+1)=k+1+n by lia];exact h5⟩;rw[List.range'_succ,dC];show(g _ Y).bind _=_;rw[h1];show(b ρ1).bind _=_;rcases h2 with h2|h2<;>(rw[h2];exact h4)
theorem uq {g:D->Env->Option Env}{b:SF}(I:Nat->Env->Prop){lo:Int}(h:I 0 Y)
  (st:∀j Y,j<n->I j Y->∃ρ1 ρ2,g (.int<|lo+(j:Int)) Y=U ρ1/\(b ρ1=U (.nx ρ2)\/b ρ1=U (.ct ρ2))/\I (j+1) ρ2):∃ρ',mn g b (qG lo n) Y=U (.nx ρ')/\I n ρ':=by
 obtain⟨ρ',h1,h2⟩:=Pq (g:=g) (b:=b) I lo n 0 Y h λj Y _ hj hI=>st j Y (by lia) hI;rw[yB]at h2;exact⟨ρ',by unfold qG;rw[qB];exact h1,h2⟩
theorem OR {c:BF}{b:SF}(I:Env->Prop)(μ:Env->Nat)(st:∀Y,I Y->∃t,c Y=U t/\(t=Â->∃ρ',(b Y=U (.nx ρ')\/b Y=U (.ct ρ'))/\I ρ'/\μ ρ' < μ Y)) :
  ∀(n:Nat) (Y:Env),I Y->μ Y<n->∃ρ',sJ c b n Y=U (.nx ρ')/\I ρ'/\c ρ'=U Ã
 |0,_,_,h=>absurd h (by lia)
 |n+1,Y,hI,h=>by
  obtain⟨t,h1,h2⟩:=st Y hI;cases t with
  |false=>exact⟨Y,by show(c Y).bind _=_;rw[h1];rfl,hI,h1⟩
  |true=>obtain⟨ρ',h3,h4,h5⟩:=h2 rfl;obtain⟨ρ2,h6,h7,h8⟩:=OR I μ st n ρ' h4 (by lia);refine⟨ρ2,?_,h7,h8⟩;show(c Y).bind _=_;rw[h1];show(b Y).bind _=_;rcases h3 with h3|h3<;>(rw[h3];exact h6)
theorem zuk (h:n<2 ^ k)(hk:k<=9000):n<Bl:=dF h (l9 (by decide) hk)
theorem zul (h:n<1048576):n<Bl:=zuk (k:=20) h (by decide)
theorem je {i j:Int}(h1:0<j)(h2:j<4611686018427387904):iD (.int i) (.int j)=U (.int<|i/j):=by unfold iD;simp[h1,h2]
theorem ur {i j:Int}(h:0<j):iA (.int i) (.int j)=U (.int<|i%j):=by unfold iA;simp[h]
theorem qy {i j:Int}(h1:-18446744073709551616<j)(h2:j<18446744073709551616):jY (.int i) (.int j)=U (.int<|i*j):=by simp[jY,BA,sY,h1,h2]
theorem jf {i j:Int}(h1:-18446744073709551616<i)(h2:i<18446744073709551616):jY (.int i) (.int j)=U (.int<|i*j):=by simp[jY,BA,sY,h1,h2]
theorem Ď {i j:Int}(h1:0<=j)(h2:j<=1000000)(h3:i.natAbs<18446744073709551616):oY (.int i) (.int j)=U (.int<|i ^ j.toNat):=by simp[oY,BA,vL,h1,h2,h3]
theorem ę {i j:Int}(h1:0<=j)(h2:j<=1000000)(h3:i.natAbs<18446744073709551616):CV (.int i) (.int j)=U (.int<|i*2 ^ j.toNat):=by simp[CV,BA,vL,h1,h2,h3]
theorem č {i j:Int}(h1:0<=j):AQ (.int i) (.int j)=U (.int<|i/2 ^ j.toNat):=by simp[AQ,BA,h1]
theorem Č (i j:Int):dL (.int i) (.int j)=U (.int<|i+j):=rfl
theorem Qg {xs ys:List D}(h:xs.length+ys.length<=16777216):dL (.lst xs) (.lst ys)=U (.lst<|xs++ys):=by simp[dL,h]
variable {y:Str}
theorem LY (h:x.length+y.length<=16777216):dL (.str x) (.str y)=U (.str<|x++y):=by simp[dL,h]
theorem ut (i j:Int):kx (.int i) (.int j)=U (.int<|i-j):=rfl
theorem ua (i j:Int):wQ (.int i) (.int j)=U (.bl<|decide<|i<j):=rfl
theorem u5 (i j:Int):vV (.int i) (.int j)=U (.bl<|decide<|i<=j):=rfl
theorem ub (i j:Int):uL (.int i) (.int j)=U (.bl<|decide<|j<i):=rfl
theorem ċ (i j:Int):E9 (.int i) (.int j)=U (.bl<|decide<|j<=i):=rfl
theorem Ę (i:Int):vX (.int i)=U (.int<|-i):=rfl
theorem vi (O:List D):fV [.lst O]=U (.int O.length):=rfl
theorem ė (O:List D):fV [.tup O]=U (.int O.length):=rfl
theorem Ė (i:Int):JJ [.int i]=U (.int<|if i<0 then -i else i):=rfl
theorem uc (i j:Int):vJ [.int i,.int j]=U (.int<|if j > i then j else i):=rfl
theorem Ě (i j:Int):GN [.int i,.int j]=U (.int<|if j<i then j else i):=rfl
theorem ħ (neg:Bool)(d:D):qM neg d .non=U (.bl<|if neg then !d.isN else d.isN):=by cases d<;>rfl
theorem Ģ (neg b:Bool)(d:D):qM neg d (.bl b)=U (.bl<|if neg then !d.isB b else d.isB b):=by cases d<;>rfl
theorem đ (b:Bool):Cr (.bl b)=U b:=rfl
theorem Ē (O:List D):FW (.lst O)=U O:=rfl
theorem wp (O:List D)(l h:Option Int):gP (.lst O) l h=U (.lst<|ã O l h):=rfl
theorem jg {j:Int}(h1:-4611686018427387904<=j)(h2:j<4611686018427387904):lA [.int j]=U (qG 0 j.toNat):=by simp[lA,h1,h2]
theorem Qh {i j:Int}(h1:-4611686018427387904<=i)(h2:i<4611686018427387904)(h3:-4611686018427387904<=j)(h4:j<4611686018427387904):t7 [.int i,.int j]=U (qG i (j-i).toNat):=by simp[t7,h1,h2,h3,h4]
theorem ME (enc:α->D){xs:List α}{i:Int}{x:α}(hi:i=(j:Int)\/i=(j:Int)-xs.length)(h:xs[j]?=U x):atI (xs.map enc) i=U (enc x):=by
 have hj:=(dM.mp h).1;unfold L2.atI L2.ó;rw[dr];rcases hi with rfl|rfl
 ·rw[if_pos<|by lia,if_pos<|by lia];simp[h]
 ·rw[if_neg<|by lia,if_pos<|by lia];have:((j:Int)-xs.length+xs.length).toNat=j:=by lia
  simp[this,h]
theorem wt (xs:List D)(k:Nat):ã xs (U (k:Int)) G=xs.drop k:=by
 unfold ã;rw[HT.sIx_none,HT.sIx_nat];rcases xZ k xs.length with h|h
 ·rw[uE h,gG<|by rw[ka];lia]
 ·rw[tK h,lq<|di _,lq h];simp
theorem Zo (xs:List D)(k l:Nat):ã xs (U (k:Int)) (U (l:Int))=(xs.drop k).take (l-k):=by
 unfold ã;rw[HT.sIx_nat,HT.sIx_nat];rcases xZ k xs.length with h|h
 ·rw[uE h];rcases xZ l xs.length with g|g
  ·rw[uE g]
  ·rw[tK g,gG<|by rw[ka];lia,gG<|by rw[ka];lia]
 ·rw[tK h,lq<|di _,lq h];simp
theorem Ps {α:Type}{g:D->Env->Option Env}{p:BF}{f:EF}{ρ0:Env}(enc:α->D)(q:α->Bool)(h:α->D):∀(xs:List α),(∀x∈xs,∃ρ1,g (enc x) ρ0=U ρ1/\p ρ1=U (q x)/\(q x=Â->f ρ1=U (h x)))->vF g p f ρ0 (xs.map enc)=U ((xs.filter q).map h)
 |[],_=>rfl
 |x::xs,H=>by
  obtain⟨ρ1,h1,h2,h3⟩:=H x cK;have ih:=Ps enc q h xs λy hy=>H y<|cQ _ hy;show(g (enc x) ρ0).bind _=_;rw[h1];show(p ρ1).bind _=_;rw[h2];cases hq:q x with
  |false=>rw[gj,if_neg cZ,wG<|by rw[hq];exact cZ];exact ih
  |true=>rw[gj,if_pos rfl,h3 hq,wH hq];show(vF g p f ρ0<|xs.map enc).bind _=_;rw[ih];rfl
section
open PySem PySem.Spec L2
structure rA (α:Type)[DecidableEq α] where
 enc:α->D
 py:α->dD
 dep:Nat
 is:∀x,(enc x).py=U (py x)
 lay:∀x,(py x).canLay0=Â
 dp:∀x,(py x).depth<=dep
 eqv:∀x y,dD.eqv (py x) (py y)=decide (x=y)
section
variable {γ δ ε:Type}[DecidableEq α][DecidableEq β][DecidableEq γ][DecidableEq δ][DecidableEq ε]
theorem rA.eq (E:rA α)(h:E.dep<=60)(x y:α):iI neg (E.enc x) (E.enc y)=U (.bl<|if neg then !decide (x=y)else decide (x=y)):=by
 have h1:vZ (E.py x)=Â:=by unfold vZ;rw[E.lay x,decide_eq_true<|eQ (E.dp x) h];rfl
 have h2:vZ (E.py y)=Â:=by unfold vZ;rw[E.lay y,decide_eq_true<|eQ (E.dp y) h];rfl
 unfold iI;rw[E.is x,E.is y];simp only[gj];rw[if_pos ⟨h1,h2⟩,E.eqv]
noncomputable def Ei:rA Int:=⟨.int,.int,0,λ_=>by simp[D.py],λ_=>rfl,λ_=>by simp[dD.depth],λx y=>by show(x==y)=_;by_cases h:x=y<;>simp[h]⟩
noncomputable def Eb:rA Bool:=⟨.bl,.bool,0,λ_=>by simp[D.py],λ_=>rfl,λ_=>by simp[dD.depth],λx y=>by cases x<;>cases y<;>rfl⟩
def sE:Option Int->D
 |none=>.non
 |some i=>.int i
theorem QO (E:rA α):∀xs:List α,D.pys (xs.map E.enc)=U (xs.map E.py)
 |[]=>by simp[D.pys]
 |x::xs=>by simp[D.pys,E.is x,QO E xs]
theorem OS (E:rA α):∀xs:List α,dD.canLayAll0 (xs.map E.py)=Â
 |[]=>by simp[dD.canLayAll0]
 |x::xs=>by simp[dD.canLayAll0,E.lay x,OS E xs]
theorem OT (E:rA α):∀xs:List α,dD.depthAll (xs.map E.py)<=E.dep
 |[]=>by simp[dD.depthAll]
 |x::xs=>by have:=OT E xs;have:=E.dp x;simp only[dC,dD.depthAll];lia
theorem OU (E:rA α):∀xs ys:List α,dD.eqvAll (xs.map E.py) (ys.map E.py)=decide (xs=ys)
 |[],[]=>by simp[dD.eqvAll]
 |[],_::_=>by simp[dD.eqvAll]
 |_::_,[]=>by simp[dD.eqvAll]
 |x::xs,y::ys=>by simp only[dC,dD.eqvAll,E.eqv,OU E xs ys];by_cases h:x=y<;>by_cases g:xs=ys<;>simp[h,g]
noncomputable def El (E:rA α):rA (List α):=⟨λxs=>.lst<|xs.map E.enc,λxs=>.list<|xs.map E.py,E.dep+1,λxs=>by simp[D.py,QO],λxs=>by simp[dD.canLay0,OS],λxs=>by have:=OT E xs;simp only[dD.depth];lia,λxs ys=>by simp only[dD.eqv,OU]⟩
noncomputable def E2 (A:rA α)(B:rA β):rA (α×β):=⟨λp=>.tup [A.enc p.1,B.enc p.2],λp=>.tuple [A.py p.1,B.py p.2],max A.dep B.dep+1,λp=>by simp[D.py,D.pys,A.is,B.is],λp=>by simp[dD.canLay0,dD.canLayAll0,A.lay,B.lay],
 λp=>by have:=A.dp p.1;have:=B.dp p.2;simp only[dD.depth,dD.depthAll];lia,λp q=>by simp only[dD.eqv,dD.eqvAll,A.eqv,B.eqv];obtain⟨a,b⟩:=p;obtain⟨c,d⟩:=q;by_cases h:a=c<;>by_cases g:b=d<;>simp[h,g]⟩
end
theorem j0 (a b:Int):iI neg (.int a) (.int b)=U (.bl<|if neg then !decide (a=b)else decide (a=b)):=Ei.eq (by decide) a b
theorem Đ (a b:Bool):iI neg (.bl a) (.bl b)=U (.bl<|if neg then !decide (a=b)else decide (a=b)):=Eb.eq (by decide) a b
end
theorem IntsAre.of {ns:List Int}{us:List cJ}(h:ez (ns.map V.int) us):IntsAre us ns:=X7 h
theorem jh (hc:X.calm=Â):jK X (.builtin "max") (λxs H Q=>∃(a:cN) (ns:List Int),xs=[.ref a]/\iE X.K H a (ns.map V.int)/\ns≠[]/\∀L',L'∈ns->(∀z∈ns,z<=L')->Q (.int L') H):=by
 intro cM s Z H xs us Q I r h;obtain⟨a,ns,rfl,hq,AJ,q⟩:=h;obtain⟨u,rfl,ru⟩:=r.one;cases(show u=cJ.ref a from ru);obtain⟨eE,rv,pl,hz⟩:=I.list hq;have hi:=IntsAre.of rv;obtain⟨ys,e⟩:=hi.allInts.items;have wO:ns=ys.toList.map (·.1):=by rw[←hi.numsOf,←nums_intItems,←e]
 have hsz:0<ys.size:=by have h3:0<ns.length:=List.length_pos_iff.mpr AJ;rw[wO,dr,dQ]at h3;exact h3
 have B1:s.heap.IsList a (intItems ys):=e▸pl.isList;refine max_intList (I.ok.hd hc) B1 hsz λv h' tk hv hk=>?_;obtain⟨t,rfl⟩:=intItems_at hv;obtain⟨h1,h2⟩:=argBest_gt (numAt ys)<|ys.size-1;refine⟨.int<|numAt ys<|argBest (λi j=>decide<|numAt ys i > numAt ys j)<|ys.size-1,H,I.kept (t':=tk) hk,⟨_,rfl⟩,q _ ?_ λz hz=>?_⟩
 ·rw[wO,numAt_eq];exact getD_mem (by rw[dr,dQ];lia)
 ·rw[wO]at hz;obtain⟨j,hj,rfl⟩:=mem_getD hz;rw[dr,dQ]at hj;rw[←numAt_eq];exact h2 j (by lia)
theorem Pu:∀{bs:List Bool} {us:List cJ},ez (bs.map V.bl) us->us=bs.map cJ.bool
 |[],_,.nil=>rfl
 |b::bs,_,.cons r t=>by rw[Pu t];cases(show _=cJ.bool b from r);rfl
theorem ve (hc:X.calm=Â):jK X (.builtin "all") (λxs H Q=>∃(a:cN) (bs:List Bool),xs=[.ref a]/\iE X.K H a (bs.map V.bl)/\Q (.bl<|bs.all id) H):=by
 intro cM s Z H xs us Q I r h;obtain⟨a,bs,rfl,hq,q⟩:=h;obtain⟨u,rfl,ru⟩:=r.one;cases(show u=cJ.ref a from ru);obtain⟨eE,rv,pl,hz⟩:=I.list hq;have hb:=Pu rv;subst hb;have hl:=pl.isList;have tV:a<s.heap.objs.size:=by obtain⟨_,e,_⟩:=hl;exact cW e
 refine PySem.call_all_walk<|uK hl ?_;refine⟨s.heap.objs.size,[s.heap.objs.size,a],[s.heap.objs.size],(bs.map cJ.bool).toArray.size,_,_,λi=>(bs[i]?).getD Â,rfl,Walks.list (A:=X.A.in1) (I.ok.hd hc) _ a (dB tV) (bs.map cJ.bool).toArray,
  ⟨⟨_,dq _ rfl,rfl,rfl⟩,hl.push _⟩,λi v s' Q' E' hP hQ=>?_,λh' tk hk=>?_⟩
 ·have hP:(bs.map cJ.bool)[i]?=U v:=by simpa using hP
  rw[eU]at hP;obtain⟨b,hb,rfl⟩:=kX.mp hP;simp only[hb,sj]at hQ;exact iO hQ
 ·have e:((eF (bs.map cJ.bool).toArray.size).all λi=>(bs[i]?).getD Â)=bs.all id:=by rw[de,dr];exact PyProof.Rows.LSm.range_all bs
  rw[e];refine⟨.bl<|bs.all id,H,I.kept (t':=tk) λb o J3=>hk b o (λhm=>?_) (cS _ J3),rfl,q⟩;rw[ef.mp hm]at J3;exact iF _<|cW J3
def pJ:List D->Option (List Int)
 |[]=>U []
 |.int i::O=>(pJ O).bind λns=>U (i::ns)
 |_=>G
theorem OW:∀{O:List D} {ns:List Int},pJ O=U ns->O=ns.map .int
 |[],_,e=>by cases e;rfl
 |d::O,ns,e=>by
  cases d with
  |int i=>obtain⟨S,h1,h2⟩:=c9<|show(pJ O).bind _=_ from e;cases h2;rw[OW h1];rfl
  |_=>cases e
theorem Pv:∀ns:List Int,pJ (ns.map .int)=U ns
 |[]=>rfl
 |n::ns=>by show(pJ<|ns.map .int).bind _=_;rw[Pv ns];rfl
theorem Pr.intV {F V':Hp}:∀{ns:List Int} {vs:List V},Pr (Al K J F V' n) (ns.map .int) vs->vs=ns.map V.int
 |[],_,.nil=>rfl
 |i::ns,_,.cons h t=>by rw[Pr.intV t,h.int];rfl
def pF:List D->Option (List Bool)
 |[]=>U []
 |.bl i::O=>(pF O).bind λns=>U (i::ns)
 |_=>G
theorem OL:∀{O:List D} {ns:List Bool},pF O=U ns->O=ns.map .bl
 |[],_,e=>by cases e;rfl
 |d::O,ns,e=>by
  cases d with
  |bl i=>obtain⟨S,h1,h2⟩:=c9<|show(pF O).bind _=_ from e;cases h2;rw[OL h1];rfl
  |_=>cases e
theorem Pr.blV {F V':Hp}:∀{ns:List Bool} {vs:List V},Pr (Al K J F V' n) (ns.map .bl) vs->vs=ns.map V.bl
 |[],_,.nil=>rfl
 |i::ns,_,.cons h t=>by rw[Pr.blV t,h.bl];rfl
noncomputable def BD:List Int->Option Int
 |[]=>G
 |x::xs=>U<|xs.foldl max x
theorem Pw:∀(xs:List Int) (x:Int),(xs.foldl max x=x\/xs.foldl max x∈xs)/\x<=xs.foldl max x/\∀z∈xs,z<=xs.foldl max x
 |[],x=>⟨.inl rfl,Int.le_refl _,λz h=>by cases h⟩
 |y::xs,x=>by
  obtain⟨h1,h2,h3⟩:=Pw xs<|max x y;refine⟨?_,by show x<=xs.foldl max (max x y);lia,λz hz=>?_⟩
  ·rcases h1 with h1|h1
   ·show xs.foldl max (max x y)=x\/xs.foldl max (max x y)∈y::xs;rw[h1];rcases Int.le_total x y with h|h
    ·rw[Int.max_eq_right h];exact .inr cK
    ·rw[Int.max_eq_left h];exact .inl rfl
   ·exact .inr<|cQ _ h1
  ·rcases cP.mp hz with rfl|hz
   ·show z<=xs.foldl max (max x z);lia
   ·exact h3 z hz
theorem Mb {ns:List Int}{L':Int}(h:BD ns=U L'):L'∈ns/\∀z∈ns,z<=L':=by
 cases ns with
 |nil=>cases h
 |cons x xs=>
  cases h;obtain⟨h1,h2,h3⟩:=Pw xs x;refine⟨?_,λz hz=>?_⟩
  ·rcases h1 with h1|h1
   ·rw[h1];exact cK
   ·exact cQ _ h1
  ·rcases cP.mp hz with rfl|hz
   ·exact h2
   ·exact h3 z hz
def U1:List D->Option D
 |[.lst O]=>(pJ O).bind λns=>U<|.int ns.sum
 |_=>G
def tY:List D->Option D
 |[.lst O]=>(pJ O).bind λns=>(BD ns).bind λL'=>U<|.int L'
 |_=>G
def lV:List D->Option D
 |[.lst O]=>(pF O).bind λbs=>U<|.bl<|bs.all id
 |_=>G
theorem Qi {vs:List V}{ns:List Int}(s:ej F H)(l:pq K J F H [n] [.lst O] vs)(e:pJ O=U ns):∃a,vs=[.ref a]/\iE K H a (ns.map V.int):=by
 cases l with
 |cons h t=>cases t;obtain⟨a,us,rfl,ha,hp⟩:=h.lst s;have:=OW e;subst this;have:=hp.intV;subst this;exact⟨a,rfl,ha⟩
theorem IY:BX K J [n] k (λxs H Q=>∃(a:cN) (ns:List Int),xs=[.ref a]/\iE K H a (ns.map V.int)/\ns≠[]/\∀L',L'∈ns->(∀z∈ns,z<=L')->Q (.int L') H) tY:=by
 intro F H vs O d Q s l e w
 match O,l,e with
 |[.lst xs],l,e=>obtain⟨ns,h1,h2⟩:=c9<|show(pJ xs).bind _=_ from e;obtain⟨L',h3,h4⟩:=c9 h2;cases h4;obtain⟨a,rfl,ha⟩:=Qi s l h1;obtain⟨m1,m2⟩:=Mb h3;refine⟨a,ns,rfl,ha,(λz=>by rw[z]at m1;cases m1),λM' h5 h6=>?_⟩;have:M'=L':=Cf (m2 M' h5)<|h6 L' m1;subst this;exact w _ F H (.refl s)<|Al.of<|.int _
theorem j4:BX K J [n] k (λxs H Q=>∃(a:cN) (bs:List Bool),xs=[.ref a]/\iE K H a (bs.map V.bl)/\Q (.bl<|bs.all id) H) lV:=by
 intro F H vs O d Q s l e w
 match O,l,e with
 |[.lst xs],l,e=>
  obtain⟨bs,h1,h2⟩:=c9<|show(pF xs).bind _=_ from e;cases h2;cases l with
  |cons h t=>cases t;obtain⟨a,us,rfl,ha,hp⟩:=h.lst s;have:=OL h1;subst this;have:=hp.blV;subst this;exact⟨a,bs,rfl,ha,w _ F H (.refl s)<|Al.of<|.bl _⟩
def A8 (H:Hp)(x:cN):Hp:=λb=>if b=x then G else H b
theorem IN (H:Hp)(x:cN):ej (A8 H x) H:=λb o h=>by
 unfold A8 at h;by_cases e:b=x
 ·rw[if_pos e]at h;cases h
 ·rw[if_neg e]at h;exact h
theorem ű (H:Hp)(x:cN):A8 H x x=G:=if_pos rfl
theorem EW {x b:cN}(h:b≠x):A8 H x b=H b:=if_neg h
def yQ (K:cL)(J:Nat->cN)(cs:List Nat)(pm:List Nat)(mi:Nat->List D->Option D):Sp:=λvs H Q _=>∃(F:Hp) (c:Nat) (O:List D) (d:D) (x dx:cN) (us:List V),c∈cs/\vs=.ref x::us/\H x=U (.ins (J c) dx [])/\F x=G/\ej F H/\pq K J F (A8 H x) pm O us/\mi c O=U d /\
 ∀F' H' f,ej F F'->ej (A8 H x) H'->ej F' H'->(∀a o,A8 H x a=U o->oR o->F a=G->F' a=G)->Ow K J F' H' 1 d (.ref x) f->f.Nodup->(∀a∈f,a=x\/H a=G)->Q .non H'
variable {mi:Nat->List D->Option D}
theorem yQ.len (h:pm.length+1=ps.length):∀vs H Q E,yQ K J cs pm mi vs H Q E->vs.length=ps.length:=by rintro vs H Q E ⟨F,c,O,d,x,dx,us,_,rfl,_,_,_,l,_⟩;rw[cX,l.length,h]
def CH (N:List Str)(b:SF)(c:Nat)(O:List D):Option D:=(b (U (.obj c [] [])::Ú N.tail O)).bind λo=>match o with
 |.nx Y=>(Y[0]?).join
 |_=>G
theorem Y4 {w:d8}{base:c7}{fd:cT}{N0:Str}(Fn:ì K x qual st fa fd)(W':gq (N0::N) ps<|dS st)(CA:pm.length+1=ps.length)(Du:S.length=N.length)(uT:pm.length<=N.length)
  (D9:∀(i n:Nat),pm[i]?=U n->S[i]?=U (Mo.al n)\/(n=0/\S[i]?=U (Mo.ow 0)))
  (body:∀(x:cN) (kO:cJ) (A:d6) (outer:List PySem.Env) (s:cU) (H:Hp) (E:XK),gu kk (A.deeper<|envOfC qual (dS st) s.heap.objs.size fa kO)->wM (tU fQ P w K mg base (N0::N) qual (dS st) fa kO A outer s H E).nox J (.so x::S) rk (iT st) bf) :
  dR P w K mg base fQ (kk+1) fa fd ps (yQ K J cs pm<|CH (N0::N) bf):=by
 refine Fn.ok W' (yQ.len CA) λkO A outer s H vs Q E hr h=>?_;obtain⟨F,c,O,d,x,dx,us,hc,rfl,hx,hF,sF,l,hm,q⟩:=h;obtain⟨t,pt,qt⟩:=body x kO A outer s H E hr;refine⟨t,pt,?_⟩;obtain⟨o,h1,h2⟩:=c9 hm;have D7:O.length=us.length:=l.length';have Ul:us.length=pm.length:=l.length;have ow:Ow K J F H 1 (.obj c [] []) (.ref x) [x]:=.inr<|Ac.obj (vs:=[]) (fb:=[]) hF hx rfl rfl .nil;have sFB:ej F (A8 H x):=λb o hb=>by rw[EW<|λe=>by rw[e,hF]at hb;cases hb];exact sF _ _ hb
 refine qt F (A8 H x) F H (U (.obj c [] [])::Ú N O) (L2.start (N0::N) (.ref x::us)) o _ ⟨.refl _,IN H x,sF,λ_ _ _ _ h=>h,[x],?_,by simp,λa z=>by rw[ef]at z;subst z;exact ű H _⟩ h1 ?_
 ·have e:L2.start (N0::N) (.ref x::us)=U (.ref x)::(us.map U++cY (N.length-us.length) G):=by unfold L2.start;simp
  rw[e];unfold Ú;rw[D7];exact SL.so (f:=[x]) (fp:=[]) ow (SL.start _ l D9<|by lia)
 ·cases o with
  |nx Y=>
   intro Z F' H' r;obtain⟨fp,sl,nd,hb⟩:=r.sl;cases sl with
   |no _=>cases h2
   |so Ld _=>cases h2;exact q F' H' _ r.f0 r.bh r.fh r.nf Ld (c8.mp nd).1 λa z=>(Classical.em<|a=x).imp id λne=>(EW ne).symm.trans<|hb a<|cV _ z
  |rt d'=>cases h2
  |bk Y=>cases h2
  |ct Y=>cases h2
theorem Mc {f:Str}{y:V}:∀{ns:List Str} {vs:List V},ns.length=vs.length->ns.contains f=Ã->nJ f y (ns.zip vs)=(ns++[f]).zip (vs++[y])
 |[],[],_,_=>rfl
 |[],_::_,h,_=>by simp at h
 |_::_,[],h,_=>by simp at h
 |n::ns,v::vs,h,hc=>by
  rw[iY,qA]at hc;have hn:¬n=f:=λe=>by rw[e]at hc;simp at hc
  have ih:=Mc (f:=f) (y:=y) (ns:=ns) (vs:=vs) (by simpa using h) hc.2;show nJ f y ((n,v)::ns.zip vs)=(n,v)::(ns++[f]).zip (vs++[y]);rw[←ih];show(if n=f then _ else _)=_;rw[if_neg hn]
theorem Ow.obj_inv {c:Nat}{ns:List Str}{v:V}(h:Ow K J F H (k+1) (.obj c ns O) v fp):∃a dx vs fr,v=.ref a/\(∃fb,fp=a::(fb++fr)/\kY K J F H ns O vs fb)/\F a=G/\H a=U (.ins (J c) dx<|ns.zip vs)/\ns.length=vs.length/\iH (Ow K J F H k) O vs fr:=by
 rcases h with⟨h,_⟩|h
 ·cases h
 ·cases h with
  |obj h1 h2 h3 h5 h4=>exact⟨_,_,_,_,rfl,⟨_,rfl,h5⟩,h1,h2,h3,h4⟩
variable {KK:cN}{s:Str}
section
def mP (cs:List Nat)(x:Str)(f:EF):SF:=λY=>(f Y).bind λd=>(M 0 Y).bind λo=>match o with
 |.obj c ns O=>if cs.contains c=Â/\ns.contains x=Ã/\ns.length<900 then U (.nx<|Y.set 0<|U<|.obj c (ns++[x])<|O++[d])else G
 |_=>G
theorem Md {α:Type}{x y:Str}{v:α}(h:x≠y):∀{ns:List Str} {vs:List α},ns.length=vs.length->((ns++[x]).zip<|vs++[v]).lookup y=(ns.zip vs).lookup y
 |[],[],_=>by show(match y==x with|true=>U v|false=>G)=G;rw[beq_eq_false_iff_ne.mpr<|Ne.symm h]
 |[],_::_,e=>by cases e
 |_::_,[],e=>by cases e
 |n::ns,w::vs,e=>by show(match y==n with|true=>U w|false=>((ns++[x]).zip<|vs++[v]).lookup y)=(match y==n with|true=>U w|false=>(ns.zip vs).lookup y);rw[Md h<|by simpa using e]
theorem kY.app {y:V}{ns:List Str}{vs:List V}(h:kY K J F H ns O vs fb)(hx:x≠"puts")(l1:ns.length=O.length)(l2:ns.length=vs.length):kY K J F H (ns++[x]) (O++[d]) (vs++[y]) fb:=by unfold kY at h ⊢;rw[Md hx l1,Md hx l2];exact h
theorem vt (hc:∀c∈cs,nY X.K (J c)/\fP X.K (J c) x)(he:XE X J (.so x0::S) 0 e f)(hx:x≠"puts":=by decide)(hN:X.N[0]?=U s:=by rfl)(hv:rZ X.env.scope s:=by walk_at "v1")(hd:kW s:=by decide)
  (kT:sU s:=by decide) (hs:gk e (U<|.Attribute (.Name s p1) x pos') pos.line X.env=pure Ã:=by rfl):XS X J (.so x0::S) rk (.Assign [.Attribute (.Name s p1) x pos'] e pos) (mP cs x f):=by
 obtain⟨t,pt,qt⟩:=he;refine⟨_,Jh (xm hN hv hd kT) pt hs,λF0 B F H Y Z o E rs e z=>?_⟩;obtain⟨d,h1,h2⟩:=c9 e;obtain⟨ob,h3,h4⟩:=c9 h2;refine qt F0 B F H Y Z d _ rs h1 λy F1 H1 x1 l=>?_;have qO:=rs.ext x1;obtain⟨fq,hσ,ow,nq,hB,put⟩:=qO.pin (i:=0) rfl<|zp h3;refine⟨_,hσ,?_⟩;cases ob with
 |obj c ns O=>
  dsimp only at h4;by_cases hz:cs.contains c=Â/\ns.contains x=Ã/\ns.length<900
  ·rw[if_pos hz]at h4;cases h4;obtain⟨a,dx,vs,fr,e1,⟨fb,rfl,cf⟩,hF,hH,hl,ol⟩:=ow.obj_inv;cases e1;have e0:=ol.nil0;subst e0;have hh:=hc c (by simpa using hz.1);refine⟨x0,_,dx,_,rfl,hH,hh.1,hh.2,by rw[ij,←hl,i7];lia,?_⟩;rw[Mc hl hz.2.1];have nb:∀b∈fb,b≠x0:=λb z e=>(dO.mp nq).1 (by rw[←e];exact cV _ z);refine z Z F1 _ (put F1 _ _ (x0::(fb++[])) (.refl _) (λb o h ne=>by rw[zo<|λe=>ne<|by rw[e];exact cK];exact h) (λb o h=>?_) (λb o h _ _ hn=>hn) qO.nf (.inr<|Ac.obj (vs:=vs++[y]) hF zu (by simp[hl]) ((cf.frame (.refl _) λb z=>⟨zo<|nb b z,(cf.cells b z).1⟩).app hx (by rw[ol.length,hl]) hl) ?_) nq λb z=>.inl z)
   ·rw[zo<|λe=>by rw[e,hF]at h;cases h];exact qO.fh _ _ h
   ·have o1:iH (Ow X.K J F1 (upd H1 x0<|.ins (J c) dx<|(ns++[x]).zip<|vs++[y]) 0) O vs []:=ol.mono λ_ _ _ _ q=>⟨q.1,q.2⟩;have:=o1.append<|iH.cons (f:=[]) (g:=[]) (R:=Ow X.K J F1 (upd H1 x0<|.ins (J c) dx<|(ns++[x]).zip<|vs++[y]) 0) ⟨l,rfl⟩ .nil;exact this
  ·rw[if_neg hz]at h4;cases h4
 |_=>cases h4
variable {fd:cT}
theorem zum (L':Mk X.K (J c0) fa)(Bv:c0∈cs)(Fn:dR X.prog X.w X.K X.mg X.base fQ kk fa fd ps<|yQ X.K J cs (ns++nd) mi)(hr:gu (kk+1) X.A)(hg:Gl X x)(hm:X.mg x=U (.ref<|J c0))
  (hb:gM X.K fd ps rH) (hd:ez nP rH) (D6:∀F V',pq X.K J F V' nd pH nP) (ha:XA X J S (e::es) ns fs)
  (oV:kW x:=by decide) (he:SE X e es:=by rfl) (lW:pW X pos es:=by rfl) :
  XO X J S 1 (.Call (.Name x pp) (e::es) [] pos) (λY=>(fs Y).bind λO=>mi c0<|O++pH):=by
 obtain⟨t,pt,_,qt⟩:=ha;refine⟨_,ztg L' Fn hr hg hm hb hd qN pt oV he lW,λF0 B F H Y Z r Q rs e w=>?_⟩;obtain⟨O,h1,h2⟩:=c9 e;refine qt F0 B F H Y Z O _ rs h1 λvs F1 H1 x1 l y dy hy Ka AJ=>?_;have sH:ej H1 (A8 (upd (upd H1 dy<|.own y) y<|.ins (J c0) dy []) y):=λb o h=>by have n1:b≠y:=z7 h hy;rw[EW n1,zo n1,zo<|z7 h Ka];exact h
 have Oe:ej H1 (upd (upd H1 dy<|.own y) y<|.ins (J c0) dy []):=sH.trans<|IN _ _;refine⟨F1,c0,O++pH,r,y,dy,vs++nP,Bv,rfl,zu,x1.fh.free hy,x1.fh.trans Oe,pq.mono (.refl _) sH<|pq.append (D6 F1 H1) l,h2,λF' H' fq s1 s2 s3 s4 ow nq hq=>⟨rfl,?_⟩⟩;refine w _ F' H' fq ⟨x1.ff.trans s1,(x1.hh.trans sH).trans s2,s3,λb o h t n=>s4 b o (sH _ _<|x1.hh _ _ h) t<|x1.nf b o h t n⟩ ow nq λb z=>?_;rcases hq b z with rfl|yG
 ·exact x1.hh.free hy
 ·exact x1.hh.free<|Oe.free yG
theorem Zq {sp:Sp}{O:List cJ}{E:XK}{m:Str}{p:mR}{t:TA}{mc:cJ}(Fn:dR X.prog X.w X.K X.mg X.base fQ kk fa fd ps sp)(hr:gu kk X.A)(hg:Gl X x)(hm:X.mg x=U (.ref KK))
  (h1:kU X.K (.ref KK) "__getattribute__"=U (U<|.builtin "type.__getattribute__")) (h2:sS X.K KK mc=Â) (h3:sQ X.K (.ref KK) mc m=U (.val<|.ref fa)) (hk:fU X.K (.ref fa)=Â) (hb:gM X.K fd ps O) (hd:ez nP O) (hx:nz fQ X E) (ha:PA X (e::es) t)
  (oV:kW x:=by decide) (lE:SE X e es:=by rfl) (lW:pW X pos es:=by rfl)
  (ht:eW (.Call (.Attribute (.Name x p) m fL) (e::es) [] pos) X.env=(do
   let ov ← eW (.Name x p) X.env
   kN fL.atName
   let(f,first) ← ir [ov] (lD ov m pl)
   mS pos f first (i8 pos<|dJ (e::es) X.env) (i9 pos<|fY [] X.env)):=by rfl) :
  PE X (.Call (.Attribute (.Name x p) m fL) (e::es) [] pos) (DI sp nP E t):=by
 intro cM s Z H Q I h;refine lz (pl:=pl) (vf I hg hm ?_ oV) ht;refine PySem.W.method_cls I.kIn h1<|PySem.W.cls_value I.kIn h2 h3 rfl ?_;have I1:Ê X cM Z H { s with toks:=s.toks+1 }:=I.tok _;refine ky (first:=[]) (h₀:=X.base) I.ok.mod.kin hk (gc (ha pos cM _ Z H _ I1 h) λus s2 ⟨vs,H2,I2,r,q2⟩=>⟨I2.kIn,?_⟩) lE lW;exact HC (us:=us) (vs:=vs) Fn hr hb hd hx I2 r q2
theorem pq.flat {vs:List V}(h:pq K J F V' ns O vs)(e:ns.all (· == 0)=Â):pq K J F G' ns O vs:=by
 induction h with
 |nil=>exact .nil
 |cons h t ih=>rw[gJ,dE]at e;cases eq_of_beq e.1;exact .cons h<|ih e.2
def zR (cs:List Nat)(fs:Env->Option (List D))(mi:Nat->List D->Option D):SF:=λY=>(M 0 Y).bind λo=>(fs Y).bind λO=>match o with
 |.obj c [] []=>if cs.contains c=Â then(mi c O).bind λd=>U (.nx<|Y.set 0<|U d)else G
 |_=>G
theorem QP {m:Str}{p:mR}{mc:cJ}(Fn:dR X.prog X.w X.K X.mg X.base fQ kk fa fd ps<|yQ X.K J cs ns mi)(hr:gu kk X.A)(hm:X.mg x=U (.ref KK))
  (h1:kU X.K (.ref KK) "__getattribute__"=U (U<|.builtin "type.__getattribute__")) (h2:sS X.K KK mc=Â) (h3:sQ X.K (.ref KK) mc m=U (.val<|.ref fa)) (hk:fU X.K (.ref fa)=Â) (hb:gM X.K fd ps []) (hz:ns.all (· == 0)=Â) (ha:XA X J (.so x0::S) es ns fs)
  (hg:Gl X x:=by rfl) (hN:X.N[0]?=U s:=by rfl) (hv:rZ X.env.scope s:=by walk_at "v1") (hd:kW s:=by decide)
  (kT:sU s:=by decide) (oV:kW x:=by decide) (lE:dJ (.Name s p1::es) X.env=(Ã,eW (.Name s p1) X.env)::dJ es X.env:=by rfl) (lW:pW X eY es:=by rfl)
  (ht:eW (.Call (.Attribute (.Name x p) m fL) (.Name s p1::es) [] eY) X.env=(do
   let ov ← eW (.Name x p) X.env
   kN fL.atName
   let(f,first) ← ir [ov] (lD ov m pl)
   mS eY f first (i8 eY<|dJ (.Name s p1::es) X.env) (i9 eY<|fY [] X.env)):=by rfl)
  (Bz:gk (.Call (.Attribute (.Name x p) m fL) (.Name s p1::es) [] eY) G pos.line X.env=pure Ã:=by rfl) :
  XS X J (.so x0::S) rk (.Expr (.Call (.Attribute (.Name x p) m fL) (.Name s p1::es) [] eY) pos) (zR cs fs mi):=by
 obtain⟨t,pt,_,qt⟩:=ha;refine⟨_,IT (Zq (E:=E0) Fn hr hg hm h1 h2 h3 hk hb .nil qN (ye (xm hN hv hd kT) pt lE) oV lE lW ht) Bz,λF0 B F H Y Z o E rs e z=>?_⟩;obtain⟨ob,O,g1,g2,g3⟩:=fu e;obtain⟨fq,hσ,_⟩:=rs.pin (i:=0) rfl<|zp g1;refine⟨_,hσ,qt F0 B F H Y Z O _ rs g2 λvs F1 H1 x1 l=>?_⟩;have qO:=rs.ext x1;obtain⟨fq,hσ,ow,nq,hB,put⟩:=qO.pin (i:=0) rfl<|zp g1
 match ob,g3,ow with
 |.obj c [] [],g3,ow=>
  dsimp only at g3;by_cases hc:cs.contains c=Â
  ·rw[if_pos hc]at g3;obtain⟨d,g4,g5⟩:=c9 g3;cases g5;obtain⟨a,dx,us,fr,e1,⟨fb,rfl,cf⟩,hF,hH,hl,ol⟩:=ow.obj_inv;cases e1;have e0:=ol.nil0;subst e0;have cf:fb=[]:=cf;subst cf;refine⟨F1,c,O,d,x0,dx,vs++[],by simpa using hc,rfl,hH,hF,x1.fh,?_,g4,λF' H' f' s1 s2 s3 s4 o' BE TY=>?_⟩
   ·rw[dU];exact l.flat hz
   ·have Uq:B x0=G:=hB x0 cK;have sB:ej B (A8 H1 x0):=λb o h=>by rw[EW<|λe=>by rw[e,Uq]at h;cases h];exact qO.bh _ _ h
    have ne:∀{b:cN},b∉x0::([]++[])->b≠x0:=λh e=>h (by rw[e];exact cK);exact z Z F' H' (put F' H' d f' s1 (λb o h nb=>s2 _ _<|by rw[EW<|ne nb];exact h) s3 (λb o h nb t Ko=>s4 b o (by rw[EW<|ne nb];exact h) t Ko) (λb o h t n=>s4 b o (sB _ _ h) t<|qO.nf b o h t n) o' BE λb z=>(TY b z).imp (λe=>by rw[e];exact cK) id)
  ·rw[if_neg hc]at g3;cases g3
end
structure iX (K:cL)(mg:Str->Option cJ)(x:Str)(st:eo)(ps:List Str)(f:cN)(fd:cT):Prop where
 fn:ì K x x st f fd
 mgx:mg x=U (.ref f)
 bd:gM K fd ps []
structure Dm (K:cL)(KK:cN)(m qual:Str)(st:eo)(ps:List Str)(f:cN)(fd:cT):Prop where
 fn:ì K m qual st f fd
 me:yR K KK m f
 bd:gM K fd ps []
structure Dc (K:cL)(mg:Str->Option cJ)(x:Str)(KK:cN):Prop where
 cl:nY K KK
 mgx:mg x=U (.ref KK)
 mks:sR K KK=Â
 kp:fU K (.ref KK)=Â
structure Dq (K:cL)(KK:cN)(m:Str)(f:cN):Prop where
 sp:kU K (.ref KK) "__getattribute__"=U (U<|.builtin "type.__getattribute__")
 rd:sS K KK (.type "type")=Â
 fc:sQ K (.ref KK) (.type "type") m=U (.val<|.ref f)
variable {an od:Option cN}{kO dV doc oc:cJ}{CO:Array (Option cJ)}
theorem QQ {f:cN}{kV pm J:cJ}(l:K.lookup f=U ⟨oc,od,.func<|nX x qual (mj st) (iT st) (dS st) dV kV doc pm an kO J,CO⟩)
  (c:tN K kO qual=Â) (k:fU K (.ref f)=Â):ì K x qual st f (nX x qual (mj st) (iT st) (dS st) dV kV doc pm an kO J):=⟨⟨oc,od,dV,kV,doc,pm,an,kO,J,CO,rfl,l,c⟩,k⟩
variable {T:cN}{items:Array cJ}
theorem zun {fd:cT}{O:List cJ}{o:gz}(hd:fd.defaults=.ref T)(ho:K.lookup T=U o)(hs:o.data=.seq items n)
  (h:∀us:List cJ,(us++O).length=ps.length->∃k,bindArgs fd ⟨us,[]⟩=seqItems? fd.defaults >>= k/\k (U items)=pure (ps.zip<|us++O)):gM K fd ps O:=λs us X hl=>by
 obtain⟨k,h1,h2⟩:=h us hl;exact PySem.W.binds_K X hd ho hs h1 h2
theorem QR (m:Nat){fd:cT}{O:List cJ}{o:gz}(ho:K.lookup T=U o)(h:∀us:List cJ,us.length=m->∃k,bindArgs fd ⟨us,[]⟩=seqItems? fd.defaults >>= k/\k (U items)=pure (ps.zip<|us++O))(hd:fd.defaults=.ref T:=by rfl)(hs:o.data=.seq items n:=by rfl)(hm:m+O.length=ps.length:=by rfl):gM K fd ps O :=
 zun hd ho hs λus hl=>h us (by rw[ee]at hl;lia)
def JF (x:Str):It:=⟨λi _=>∃c,x.cps[i]?=U c,λi H v H'=>H'=H/\∃c,x.cps[i]?=U c/\v=.str ⟨#[c]⟩,λi _=>x.cps[i]?=G⟩
theorem Zr {w:d8}(x:Str)(t:Tok)(it:cN):ô P w K tg (JF x) [it] it (λi h=>h.IsStrIter it (fN x) x t i) where
 mem:=by simp
 obj:=λi h st b hb=>by
  have e:b=it:=by simpa using hb
  subst e;obtain⟨o,e,c,d⟩:=st;exact⟨o,e,λv z=>by rw[d]at z;cases z⟩
 keep:=λi h h' st k=>by obtain⟨o,e,c,d⟩:=st;exact⟨o,k it (by simp) o e,c,d⟩
 item:=by
  intro X hP hw hK hc i cM s Z H E I hf st hg;subst hP hw hK;obtain⟨c,hx⟩:=hg;obtain⟨f0,f1,f2,f3,f4,f5⟩:=hf it (by simp);have fin:∀h':c7,h'.IsStrIter it (fN x) x t (i+1)->fe it s.heap h'->dg (dz X.prog X.w) X.A (mY tg (.ref it)<|.str ⟨#[c]⟩ s.toks) (λ_ s2=>∃v H',Ê X cM Z H' s2/\Ì v (.str ⟨#[c]⟩ s.toks)/\(JF x).yld i H v H'/\s2.heap.IsStrIter it (fN x) x t (i+1)/\∀b∈[it],H' b=G) E { s with heap:=h',toks:=s.toks+1 }:=λh' wD sb=>by have I1:Ê X cM Z H { s with heap:=h',toks:=s.toks+1 }:=I.turned (t':=s.toks+1) (λb o hb e=>(sb.2 b hb).trans e) f0 f1 f3 f4 f5;obtain⟨o,e,cc,d⟩:=id wD;refine M9 (s:={ s with heap:=h',toks:=s.toks+1 }) e cc d ?_ ⟨.str ⟨#[c]⟩,H,I1,⟨_,rfl⟩,⟨rfl,c,hx,rfl⟩,wD,λb hb=>(hf b hb).1⟩;unfold fN;split<;>decide
  cases ha:x.cps.all (·<128)with
  |true=>
   have e:fN x = "str_ascii_iterator":=by unfold fN;rw[ha];rfl
   rw[e]at st fin;exact wpAny_pyNext_ascii_item st hx λh' wD sb=>⟨_,rfl,by rw[e];exact fin h' wD sb⟩
  |false=>
   have e:fN x = "str_iterator":=by unfold fN;rw[ha];rfl
   rw[e]at st fin;exact wpAny_pyNext_wide_item st hx λh' wD sb=>⟨_,rfl,by rw[e];exact fin h' wD sb⟩
 done:=by
  intro X hP hw hK hc i cM s Z H E I hf st hg;subst hP hw hK;obtain⟨f0,f1,f2,f3,f4,f5⟩:=hf it (by simp);cases ha:x.cps.all (·<128)with
  |true=>
   have e:fN x = "str_ascii_iterator":=by unfold fN;rw[ha];rfl
   rw[e]at st;exact wpAny_pyNext_ascii_end (I.ok.hd hc) st hg λh' eb=>⟨rfl,I.turned (t':=s.toks) (λb o hb e=>eb b o hb e) f0 f1 f3 f4 f5⟩
  |false=>
   have e:fN x = "str_iterator":=by unfold fN;rw[ha];rfl
   rw[e]at st;exact wpAny_pyNext_wide_end (I.ok.hd hc) st hg λh' eb=>⟨rfl,I.turned (t':=s.toks) (λb o hb e=>eb b o hb e) f0 f1 f3 f4 f5⟩
 self:=λA i s Q E st h=>by
  cases ha:x.cps.all (·<128)with
  |true=>
   have e:fN x = "str_ascii_iterator":=by unfold fN;rw[ha];rfl
   rw[e]at st;exact wpAny_pyIter_striter_ascii st h
  |false=>
   have e:fN x = "str_iterator":=by unfold fN;rw[ha];rfl
   rw[e]at st;exact wpAny_pyIter_striter_wide st h
def KQ (tl:TE):TI:=λZ H R=>tl Z H λx H1=>∃z,x=.str z/\R (JF z) H1
theorem Ű {l:Expr}{tl:TE}(hl:PE X l tl):PI X tg l (KQ tl):=by
 intro cM s Z H R I h;refine gc (hl cM s Z H _ I h) λv s1 gR=>?_;obtain⟨x,H1,I1,r,z,e,q⟩:=gR;subst e;obtain⟨t,rfl⟩:=r;refine wpAny_pyIter_strU ?_;refine⟨s1.heap.objs.size,[s1.heap.objs.size],_,_,H1,rfl,I1.kept (t':=s1.toks) λb o e=>cS _ e,(Zr z t _).ok,⟨_,dq _ rfl,rfl,rfl⟩,λb hb=>?_,q⟩;have e:b=s1.heap.objs.size:=by simpa using hb
 subst e;exact I1.fpOk (di _)<|I1.hok.fresh<|di _
noncomputable def uB (x:Str):List D:=x.cps.toList.map λc=>.str ⟨#[c]⟩
def JL:D->Option (List D)
 |.str x=>U<|uB x
 |_=>G
theorem RC (he:XE X J S m e f):XI X J S n tg e (λY=>(f Y).bind JL):=by
 obtain⟨t,pt,qt⟩:=he;refine⟨_,Ű pt,λF0 B F H Y Z O R rs e w=>?_⟩;obtain⟨d,h1,h2⟩:=c9 e;refine qt F0 B F H Y Z _ _ rs h1 λv F' H' x l=>?_;cases d with
 |str z=>
  cases h2;refine⟨z,l.str,w _ F' H' x λi F2 H2 s1 s2 s3=>⟨λd hd=>?_,λhl=>?_⟩⟩
  ·unfold uB at hd;rw[eU]at hd;obtain⟨c,hc,rfl⟩:=kX.mp hd;have Dr:z.cps[i]?=U c:=by simpa using hc
   refine⟨⟨c,Dr⟩,λy H3 hy=>?_⟩;obtain⟨rfl,c2,h3,rfl⟩:=hy;rw[Dr]at h3;cases h3;exact⟨F2,.refl s3,Al.of<|.str _⟩
  ·unfold uB at hl;rw[dr,dQ]at hl;exact Array.getElem?_eq_none hl
 |_=>cases h2
theorem Zs [DecidableEq κ](k:κ)(v:V):∀{ks:List κ} {vs:List V},ks.length=vs.length->æ (ks.zip vs) k v=(if ks.contains k=Â then ks.zip ((ks.zip vs).map λp=>if p.1=k then v else p.2)else(ks++[k]).zip (vs++[v])):=by
 intro ks vs hl;unfold æ;have e:((ks.zip vs).any λkv=>decide<|kv.1=k)=ks.contains k:=by
  rw[BU,Be,List.contains_iff_mem];constructor
  ·rintro⟨p,hp,he⟩;have:=decide_eq_true_iff.mp he;rw[←this];exact(o7 hp).1
  ·intro hk;obtain⟨i,hi,rfl⟩:=List.getElem_of_mem hk;exact⟨(ks[i],vs[i]'(by lia)),List.mem_iff_getElem.mpr ⟨i,by simp;lia,by simp⟩,by simp⟩
 rw[e];by_cases h:ks.contains k=Â
 ·rw[if_pos h,if_pos h];clear e h;induction ks generalizing vs with
  |nil=>simp
  |cons y ks ih=>
   cases vs with
   |nil=>simp at hl
   |cons u vs=>simp only[eh,dC,ih<|by simpa using hl];by_cases hy:y=k<;>simp[hy]
 ·rw[if_neg h,if_neg h,BV hl];rfl
variable {fj:EF}{qY:mR}
def Ap (i:Nat)(fj f:EF):SF:=λY=>(f Y).bind λd=>(M i Y).bind λo=>(fj Y).bind λj=>match o with
 |.dK ks O=>(CK j).bind λk=>if ks.length<16777216 then U (.nx<|Y.set i<|U<|.dK (pQ ks O k d).1 (pQ ks O k d).2)else G
 |.dT ks O=>(match j with
  |.tup js=>(xO js).bind λk=>if ks.length<16777216 then U (.nx<|Y.set i<|U<|.dT (pQ ks O k d).1 (pQ ks O k d).2)else G
  |_=>G)
 |_=>G
theorem Qj [DecidableEq κ]{v:V}(r:R d v)(k:κ){ks:List κ}{vs:List V}(hl:ks.length=vs.length)(hp:Pr R O vs) :
  ∃us,æ (ks.zip vs) k v=(pQ ks O k d).1.zip us/\(pQ ks O k d).1.length=us.length/\Pr R (pQ ks O k d).2 us:=by
 rw[Zs k v hl];unfold pQ;by_cases h:ks.contains k=Â
 ·rw[if_pos h,if_pos h];refine⟨_,rfl,by simp[hl],?_⟩;clear h;induction ks generalizing O vs with
  |nil=>simp;exact .nil
  |cons y ks ih=>
   cases hp with
   |nil=>simp at hl
   |cons h t=>
    simp only[eh,dC];refine .cons ?_ (ih (by simpa using hl) t);by_cases hy:y=k
    ·rw[if_pos hy,if_pos hy];exact r
    ·rw[if_neg hy,if_neg hy];exact h
 ·rw[if_neg h,if_neg h];exact⟨_,rfl,by simp[hl],hp.append<|.cons r .nil⟩
theorem MF (i:Nat){j:Expr}(hm:S[i]?=U (.ow 1))(hu:X.A.units+1<lS)(hj:XE X J S 0 j fj)(he:XE X J S 0 e f)(hN:X.N[i]?=U x:=by rfl)(hv:rZ X.env.scope x:=by walk_at "v1")(hd:kW x:=by decide)
  (kT:sU x:=by decide) (hs:gk e (U<|.Subscript (.Name x p1) j qY) pos.line X.env=pure Ã:=by rfl) :
  XS X J S rk (.Assign [.Subscript (.Name x p1) j qY] e pos) (Ap i fj f):=by
 obtain⟨t,pt,qt⟩:=he;obtain⟨tj,GZ,G0⟩:=hj;refine⟨_,zto hu (xm hN hv hd kT) GZ pt hs,λF0 B F H Y Z o E rs e z=>?_⟩;obtain⟨d,g1,g2⟩:=c9 e;obtain⟨d1,BY,g3,g4,g5⟩:=fu g2;refine qt F0 B F H Y Z d _ rs g1 λv0 F1 H1 x1 l0=>?_;have qO:=rs.ext x1;obtain⟨f1,fr,n1,b1,dj,i4,cf,put⟩:=qO.put (F':=F) (H':=H) hm;obtain⟨v,hσ,ow⟩:=i4 d1<|zp g3;refine⟨v,hσ,G0 F0 B F1 H1 Y Z BY _ qO g4 λvj F2 H2 x2 lj=>?_⟩;have NZ:Dt X.K J F2 d v0:=Dt.mono x2.ff l0;cases d1 with
 |dK ks O=>
  dsimp only at g5;obtain⟨key,g6,g7⟩:=c9 g5;by_cases hz:ks.length<16777216
  ·rw[if_pos hz]at g7;cases g7;obtain⟨ad,vs,Bq,rfl,rfl,hF,hH,hl,ol⟩:=ow.dK_inv;have hA:=x2.hh _ _ hH;have fA:F2 ad=G:=x2.nf ad _ hH nofun hF;have e0:=ol.nil0;subst e0;have hp:Pr (Dt X.K J F2) O vs:=ol.pr λ_ _ _ _ q=>q.1.mono x2.ff;obtain⟨us,KB,KH,KJ⟩:=Qj NZ key hl hp;have hk:=MY g6 lj;subst hk;refine⟨ad,_,rfl,xE.k hA<|by rw[ij,←hl,i7,dW];exact hz,?_⟩;rw[KB];refine z Z F2 _ (qO.change hm x2 hσ b1 dj cf put cK fA (.inr<|.dK fA zu KH<|iH.ofPr<|KJ.mono λ_ _ q=>⟨q,rfl⟩) (fn:=[ad]) (by simp) ?_);intro a ha;rw[ef]at ha;subst ha;exact .inl cK
  ·rw[if_neg hz]at g7;cases g7
 |dT ks O=>
  cases BY with
  |tup js=>
   dsimp only at g5;obtain⟨key,g6,g7⟩:=c9 g5;by_cases hz:ks.length<16777216
   ·rw[if_pos hz]at g7;cases g7;obtain⟨ad,vs,Bq,rfl,rfl,hF,hH,hl,ol⟩:=ow.dT_inv;have hA:=x2.hh _ _ hH;have fA:F2 ad=G:=x2.nf ad _ hH nofun hF;have e0:=ol.nil0;subst e0;have hp:Pr (Dt X.K J F2) O vs:=ol.pr λ_ _ _ _ q=>q.1.mono x2.ff;obtain⟨us,KB,KH,KJ⟩:=Qj NZ key hl hp;obtain⟨bd,ws,rfl,hb,Kw⟩:=lj.tup x2.fh;have hk:=QK g6 Kw;subst hk;refine⟨ad,_,rfl,xE.t hA hb<|by rw[ij,←hl,i7,dW];exact hz,?_⟩;rw[KB];refine z Z F2 _ (qO.change hm x2 hσ b1 dj cf put cK fA (.inr<|.dT fA zu KH<|iH.ofPr<|KJ.mono λ_ _ q=>⟨q,rfl⟩) (fn:=[ad]) (by simp) ?_);intro a ha;rw[ef]at ha;subst ha;exact .inl cK
   ·rw[if_neg hz]at g7;cases g7
  |_=>cases g5
 |_=>cases g5
def G2 (K:cL):V->V->Hp->VK->Prop:=λo i H Q=>∃p xs k v,o=.ref p/\i=.int k/\iE K H p xs/\atI xs k=U v/\Q v H
theorem Y5:FO X (G2 X.K):=by
 intro cM s Z H o i ov iv Q I ro ri h;obtain⟨p,xs,k,z,rfl,rfl,hq,he,q⟩:=h;cases ro;obtain⟨t,rfl⟩:=ri;obtain⟨eE,r,pl,hz⟩:=I.list hq;obtain⟨j,h1,h2,h3,h4,h5⟩:=IX he;obtain⟨w,ew,uY⟩:=r.get h2;have hl:=r.length;have hn:=pK;have fin:EP X cM Z Q w s:=⟨z,H,I,uY,q⟩;by_cases h0:0<=k
 ·have hj:k.toNat=j:=by rw[vP h0 h5]at h1;exact Option.some.inj h1
  exact wpAny_getItem_list pl.isList h0 (by lia) (by rw[hj];simpa using ew) fin
 ·have hj:(k+(eE.toArray.size:Int)).toNat=j:=by rw[uI (by lia) h4]at h1;rw[de,←hl];exact Option.some.inj h1
  exact wpAny_getItem_list_neg pl.isList (by lia) (by rw[de]<;>lia) (by lia) (by rw[hj];simpa using ew) fin
def BO (i:Nat)(fj:EF)(gi:Int->Int->Int)(f:EF):SF:=λY=>(M i Y).bind λo=>(fj Y).bind λj=>(f Y).bind λy=>match o,j with
 |.lst O,.int z=>(atI O z).bind λx=>(match x,y with
  |.int a,.int b=>(vN O z<|.int<|gi a b).bind λds'=>U<|.nx<|Y.set i<|U<|.lst ds'
  |_,_=>G)
 |_,_=>G
theorem QS (i:Nat){j:Expr}{gi:Int->Int->Int}(ho:E3 X op<|Im gi)(hm:S[i]?=U (.ow 1))(hj:XE X J S n j fj)(he:XE X J S m e f)(hN:X.N[i]?=U x:=by rfl)(hv:rZ X.env.scope x:=by walk_at "v1")(hd:kW x:=by decide)
  (kT:sU x:=by decide) (ha:∀ov iv new,augStore j ov iv new=(do ir [new,ov,iv] (xB ov iv new);release [new,ov,iv] [];pure .next):=by intros;rfl) :
  XS X J S rk (.AugAssign (.Subscript (.Name x p1) j qY) op e pos) (BO i fj gi f):=by
 obtain⟨t,pt,qt⟩:=he;obtain⟨tj,GZ,G0⟩:=hj;refine⟨_,zs8 (xm hN hv hd kT) GZ Y5 pt ho PU ha,λF0 B F H Y Z o E rs e z=>?_⟩;obtain⟨d1,BY,g3,g4,g5⟩:=fu e;obtain⟨d2,g6,g7⟩:=c9 g5;obtain⟨f1,fr,n1,b1,dj,i4,cf,put⟩:=rs.put (F':=F) (H':=H) hm;obtain⟨v,hσ,ow⟩:=i4 d1<|zp g3;refine⟨v,hσ,G0 F0 B F H Y Z BY _ rs g4 λvj F2 H2 x2 lj=>?_⟩;cases d1<;>try (cases g7;done)
 rename_i O;cases BY<;>try (cases g7;done)
 rename_i zi
 ·skip
  dsimp only at g7;obtain⟨da,g8,g9⟩:=c9 g7;obtain⟨ad,vs,Bq,rfl,rfl,hF,hH,ol⟩:=ow.lst_inv;have hA:H2 ad=U (.lst vs):=x2.hh _ _ hH;have hp:Pr (Al X.K J F2 H2 0) O vs:=ol.pr λ_ _ _ _ q=>q.1.mono x2.ff;obtain⟨va,TJ,D4⟩:=hp.atI g8;refine⟨ad,vs,zi,va,rfl,lj.int,iE.of hA,TJ,qt F0 B F2 H2 Y Z d2 _ (rs.ext x2) g6 λvy F3 H3 x3 ly=>?_⟩;have tE:=x2.trans x3;cases da<;>try (cases g9;done)
  rename_i ia;cases d2<;>try (cases g9;done)
  rename_i ib
  ·skip
   dsimp only at g9;obtain⟨ds',Ts,Tt⟩:=c9 g9;cases Tt;obtain⟨jn,Tu,Tv⟩:=c9 Ts;cases Tv;have TB:H3 ad=U (.lst vs):=x3.hh _ _ hA;have fA:F3 ad=G:=tE.nf ad _ hH nofun hF;have e0:=ol.nil0;subst e0;refine⟨ia,ib,D4.int,ly.int,ad,vs,zi,jn,rfl,lj.int,TB,by rw[←ol.length];exact Tu,?_⟩;refine z Z F3 _ (rs.change hm tE hσ b1 dj cf put cK fA (.inr<|.lst fA zu<|iH.set0 ⟨.int _,rfl⟩ (λ_ _ _ q=>q.2) jn<|ol.mono λ_ _ _ _ q=>⟨q.1.mono tE.ff,q.2⟩) (fn:=[ad]) (by simp) ?_);intro a ha;rw[ef]at ha;subst ha;exact .inl cK
structure Ic (K:cL)(KK:cN):Prop where
 cl:nY K KK
 ha:fT K (.ref KK) "__class__"=U (U<|.builtin "object.__class__")
 hn:kU K (.builtin "object.__class__") "__get__"=U (U<|.builtin "getset_descriptor.__get__")
 ht:AC K (.builtin "object.__class__")=U Â
 hm:Bj K KK (.type "object")=U Â
def CI (all sub:List Nat):D->Option D
 |.obj c _ _=>if all.contains c=Â then U (.bl<|sub.contains c)else G
 |_=>G
theorem QT {all sub:List Nat}(hI:∀c∈all,Ic X.K (J c)/\iG X.K (.ref<|J c) (.ref KK)=U (sub.contains c))(hm:X.mg "isinstance"=G)(Ai:X.mg x=U (.ref KK))(he:XE X J S n e f)(hg:Gl X "isinstance":=by rfl)(Bw:Gl X x:=by rfl)(hd2:kW x:=by decide)
  (Eg:dJ [e,.Name x p2] X.env=(Ã,eW e X.env)::dJ [.Name x p2] X.env:=by rfl) (uU:dJ [.Name x p2] X.env=(Ã,eW (.Name x p2) X.env)::dJ [] X.env:=by rfl) (lW:(i8 pos<|dJ [.Name x p2] X.env).any (·.1)=Ã:=by rfl) :
  XE X J S k (.Call (.Name "isinstance" pp) [e,.Name x p2] [] pos) (e1 (CI all sub) f):=by
 obtain⟨t,pt,qt⟩:=he;refine⟨_,L8 YR hg hm ja (ye pt (ye (Mw (v:=.ref KK) Bw Ai rfl hd2) xx uU) Eg) (by decide) (by decide) Eg lW,λF0 B F H Y Z d Q rs e w=>?_⟩;obtain⟨d1,h1,h2⟩:=c9 e;refine qt F0 B F H Y Z d1 _ rs h1 λv F' H' x l=>?_;cases d1 with
 |obj c ns O=>
  unfold CI at h2;dsimp only at h2;by_cases hc:all.contains c=Â
  ·rw[if_pos hc]at h2;cases h2;obtain⟨a,dx,vs,rfl,ha,_⟩:=l.obj x.fh;obtain⟨ic,Uy⟩:=hI c (by simpa using hc);exact⟨_,KK,_,_,rfl,.ins ha ic.cl ic.ha ic.hn ic.ht ic.hm,Uy,w _ F' H' x<|Al.of<|.bl _⟩
  ·rw[if_neg hc]at h2;cases h2
 |_=>cases h2
section
open PySem PySem.Spec L2
noncomputable def eA (i:Int):Str:=((toString i:String):Str)
def iM:List D->Option D
 |[.int i]=>if i.natAbs.log2<1920 then U (.str<|eA i)else G
 |_=>G
theorem yt:BX K J [n] k (λxs H Q=>∃i,xs=[.int i]/\i.natAbs.log2<1920/\Q (.str<|toString i) H) iM:=by
 intro F H vs O d Q s l e w;cases l with
 |cons h t=>
  cases t;rename_i d1 v;cases d1 with
  |int i=>
   unfold iM at e;dsimp only at e;by_cases hz:i.natAbs.log2<1920
   ·rw[if_pos hz]at e;cases e;exact⟨i,by rw[h.int],hz,w _ F H (.refl s)<|Al.of<|.str _⟩
   ·rw[if_neg hz]at e;cases e
  |_=>cases e
theorem Qk {i:Int}(h:Sz 1900 i):iM [.int i]=U (.str<|eA i):=by
 unfold iM;dsimp only;rw[if_pos];by_cases h0:i.natAbs=0
 ·rw[h0];decide
 ·rw[qI h0];exact dF h (l9 (by decide)<|by decide)
theorem zw (s:String):dD.strOk (s:Str)=Â:=by
 unfold dD.strOk;rw[←sK,gL];intro x hx;rw[decide_eq_true_iff];show x<0x110000;rw[Str.ofString_eq_toList]at hx;simp at hx;obtain⟨c,_,rfl⟩:=hx;have h:=c.valid;rcases h with h|⟨h1,h2⟩
 ·have:c.val.toNat<0xd800:=h;show c.val.toNat<_;lia
 ·exact h2
theorem uz (i:Int):dD.strOk (eA i)=Â:=zw _
theorem Jp (hx:dD.strOk x=Â)(hy:dD.strOk y=Â):dD.strOk (x++y)=Â:=by unfold dD.strOk at *;show(x.cps++y.cps).all _=Â;rw[Array.all_append,hx,hy];rfl
noncomputable def Es:rA {x:Str // dD.strOk x=Â}:=⟨λx=>.str x.1,λx=>.str x.1,0,λ_=>by simp[D.py],λx=>by simp only[dD.canLay0];exact x.2,λ_=>by simp[dD.depth],λx y=>by
 show(x.1==y.1)=_;by_cases h:x=y
 ·subst h;simp
 ·have:x.1≠y.1:=λz=>h<|Subtype.ext z;simp[h,this]⟩
theorem xt (hx:dD.strOk x=Â)(hy:dD.strOk y=Â):iI neg (.str x) (.str y)=U (.bl<|if neg then !decide (x=y)else decide (x=y)):=by have:=Es.eq (by decide) (neg:=neg) ⟨x,hx⟩ ⟨y,hy⟩;simpa[Es]using this
theorem QU {i:Int}(h:Sz 1900 i):(eA i).length<=1921:=by
 refine PyProof.Rows.int_text_len_1921 ?_;by_cases h0:i.natAbs=0
 ·rw[h0];decide
 ·rw[qI h0];exact dF h (l9 (by decide)<|by decide)
theorem ya (x y:Str):(x++y).length=x.length+y.length:=by show(x.cps++y.cps).size=_;rw[Array.size_append];rfl
end
section
open PySem PySem.Spec L2
def Am (K:cL):R2:=λx y H Q=>∃(a:cN) (ns:List Int),x=.ref a/\iE K H a (ns.map V.int)/\(ns=[]->Q y H)/\∀L',L'∈ns->(∀z∈ns,z<=L')->Q (.int L') H
theorem zuo {ta tb:TE}{p kp:mR}(hc:X.calm=Â)(hg:Gl X "max")(hm:X.mg "max"=G)(ha:PE X e ta)(hb:PE X b tb)(he:SE X e []:=by rfl):PE X (.Call (.Name "max" p) [e] [⟨U "default",b,kp⟩] pos) (Hj (Am X.K) ta tb):=by
 intro cM s Z H Q I h;refine fR (vd (u:=.builtin "max") I hg hm qv ?_ (by decide)<|by decide);refine sk (gc ((ye ha xx he) pos cM s Z H (λvs H1=>match vs with|[x]=>tb Z H1 λy H2=>Am X.K x y H2 Q|_=>False) I ?_) λus s1 ⟨vs,H1,I1,r,q⟩=>?_) (by rw[he];rfl) (by rw[he];rfl)
 ·exact h
 ·match vs,q with
  |[x],q=>
   obtain⟨u,rfl,ru⟩:=r.one;refine gc ((zth (nm:=some "default") (GG:=kp) hb Ϟ) pos cM s1 Z H1 (λvs H1=>match vs with|[y]=>Am X.K x y H1 Q|_=>False) I1 q) λus s2 gR=>?_;obtain⟨vs,H2,I2,r2,q2⟩:=gR
   match vs,q2 with
   |[y],q2=>
    obtain⟨z,rfl,rz⟩:=r2.one;obtain⟨a,ns,rfl,hq,q0,q1⟩:=q2;cases(show u=cJ.ref a from ru);obtain⟨eE,rv,pl,hz⟩:=I2.list hq;have hi:=IntsAre.of rv;obtain⟨ys,ey⟩:=hi.allInts.items;have wO:ns=ys.toList.map (·.1):=by rw[←hi.numsOf,←nums_intItems,←ey]
    have B1:s2.heap.IsList a (intItems ys):=ey▸pl.isList;refine YG<|iter_intList B1 λs₃ e3 st Ke T7=>?_;subst e3;refine⟨_,_,_,_,_,_,_,rfl,Walks.list (A:=X.A.in1) (I2.ok.hd hc) _ a T7<|intItems ys,st,Ke,CmpOf.ints_gt (numAt ys)<|λ_ _=>intItems_at,λv h' tk hP hk=>?_⟩;have hk:=old_kept hk;have lO:ns.length=ys.size:=by rw[wO,dr,dQ]
    by_cases h0:(intItems ys).size=0
    ·rw[if_pos h0]at hP;subst hP;have:ns=[]:=List.eq_nil_of_length_eq_zero (by rw[lO];simpa[intItems]using h0);exact⟨y,H2,I2.kept (t':=tk) hk,rz,q0 this⟩
    ·rw[if_neg h0]at hP;have h0:0<ys.size:=by simp[intItems]at h0;exact Array.size_pos_iff.mpr h0
     rw[show(intItems ys).size=ys.size by simp[intItems]]at hP;obtain⟨t,rfl⟩:=intItems_at hP;obtain⟨h1,h2⟩:=argBest_gt (numAt ys)<|ys.size-1;refine⟨.int<|numAt ys<|argBest (λi j=>decide<|numAt ys i > numAt ys j)<|ys.size-1,H2,I2.kept (t':=tk) hk,⟨_,rfl⟩,q1 _ ?_ λz hz=>?_⟩
     ·rw[wO,numAt_eq];exact getD_mem (by rw[dr,dQ];lia)
     ·rw[wO]at hz;obtain⟨j,hj,rfl⟩:=mem_getD hz;rw[dr,dQ]at hj;rw[←numAt_eq];exact h2 j (by lia)
def xP:D->D->Option D
 |.lst O,z=>if z.sc=Â then(pJ O).bind λns=>match ns with|[]=>U z|_=>(BD ns).bind λL'=>U (.int L')else G
 |_,_=>G
theorem Zt:sV K J n m k (Am K) xP:=by
 intro F H x y d1 d2 d Q s l1 l2 e w;cases d1 with
 |lst xs=>
  unfold xP at e;dsimp only at e;by_cases hz:d2.sc=Â
  ·rw[if_pos hz]at e;obtain⟨ns,h1,h2⟩:=c9 e;obtain⟨a,h3,ha⟩:=Qi s (.cons l1 .nil:pq K J F H [n] [.lst xs] [x]) h1;cases h3;refine⟨a,ns,rfl,ha,λh0=>?_,λL' h5 h6=>?_⟩
   ·subst h0;cases h2;exact w _ F H (.refl s)<|Al.of<|l2.scal hz
   ·cases ns with
    |nil=>cases h5
    |cons n0 ns=>obtain⟨M',h3,h4⟩:=c9 h2;cases h4;obtain⟨m1,m2⟩:=Mb h3;have:M'=L':=Cf (h6 M' m1)<|m2 L' h5;subst this;exact w _ F H (.refl s)<|Al.of<|.int _
  ·rw[if_neg hz]at e;cases e
 |_=>cases e
theorem zup {p kp:mR}(hc:X.calm=Â)(hg:Gl X "max")(hm:X.mg "max"=G)(ha:XE X J S n e f)(hb:XE X J S m b g)(he:SE X e []:=by rfl):XE X J S k (.Call (.Name "max" p) [e] [⟨U "default",b,kp⟩] pos) (L xP f g):=by obtain⟨ta,tb,pa,pb,q⟩:=ha.bin hb;refine⟨_,zuo hc hg hm pa pb he,λF0 B F H Y Z d Q rs e w=>?_⟩;obtain⟨d1,d2,h1,h2,h3⟩:=fu e;exact q F0 B F H Y Z d1 d2 _ rs h1 h2 λx y F' H' x1 l1 l2=>Zt F' H' x y d1 d2 d Q x1.fh l1 l2 h3 λv F2 H2 x2 l=>w v F2 H2 (x1.trans x2) l
end
def ED (K:cL):V->List V->Hp->VK->Prop:=λx vs H Q=>∃p ys y j,x=.ref p/\vs=[y]/\iE K H p ys/\nQ y=Â/\ys.all nQ=Â/\ys.findIdx? (λz=>AG z y)=U j/\Q (.int (j:Nat)) H
theorem QW:∀{xs:List V} {us:List cJ} {x:V},ez xs us->xs.all nQ=Â->us.map (wN x)=xs.map λy=>AG y x
 |_,_,_,.nil,_=>rfl
 |y::xs,u::us,x,.cons r t,f=>by rw[gJ,dE]at f;rw[dC,dC,MU r f.1,QW t f.2]
theorem Zu:Dh X "list.index" (ED X.K):=by
 intro cM s Z H x vs v us Q I rx rv h;obtain⟨p,ys,y,j,rfl,rfl,hq,fy,fs,hj,q⟩:=h;cases rx;obtain⟨u,rfl,ru⟩:=rv.one;obtain⟨eE,r,pl,hz⟩:=I.list hq;obtain⟨⟨cls,dd,data,sl⟩,ho,hc,n,hd⟩:=pl.isList;simp only at hc hd;subst hc hd;have hm:=QW (x:=y) r fs;have lO:=r.length;obtain⟨j1,j2,j3⟩:=rT.mp hj;have NF:∀i (hi:i<eE.length),wN y eE[i]=AG (ys[i]'(by lia)) y:=λi hi=>by have:=congrArg (λl=>l[i]?) hm;simp only[eU]at this;rw[dY hi,dY<|by lia]at this;simpa using this
 have hzl:ys.length<=16777216:=hz;refine my PySem.F.slot_list_index ⟨_,ho,rfl⟩ PySem.F.entry_list_index (PySem.F.args_list_index_2 _ _)
  (SeqAt.list_indexAt p eE.toArray n dd sl u (wN y) j (by simp;lia) (by lia) ?_ ?_) ⟨ho,λw hw=>uk ru fy r fs w<|by simpa using hw,.int (j:Nat),H,I.tok _,⟨_,rfl⟩,q⟩
 ·simp only[yK];rw[NF j<|by lia];exact j2
 ·intro i hi tV;simp only[yK];rw[NF i<|by simpa using hi];simpa using j3 i tV
def xM:D->D->Option D
 |.lst O,x=>if x.sc=Â/\O.all D.sc=Â then(O.findIdx? λy=>F6 y x).bind λj=>U (.int (j:Nat))else G
 |_,_=>G
theorem RD {x:D}(hx:x.sc=Â):∀{O:List D},O.all D.sc=Â->(O.map D.v).findIdx? (λz=>AG z x.v)=O.findIdx? λy=>F6 y x
 |[],_=>rfl
 |d::O,h=>by rw[gJ,dE]at h;rw[dC,Ar,Ar,R8 h.1 hx,RD hx h.2]
theorem Me (ho:XE X J S n o f)(he:XE X J S m e g)(lE:SE X e []:=by rfl)
  (kh:yO X o "index":=by rfl)
  (nF:Bm X eY [e]:=by rfl)
  (ki:(fL.endLine==eY.line)=Â:=by rfl) (iw:pW X eY []:=by rfl) :
  XE X J S k (.Call (.Attribute o "index" fL) [e] [] eY) (L xM f g):=by
 obtain⟨ta,pa,qa⟩:=ho;obtain⟨tb,pb,qb⟩:=he;refine⟨_,Ca PySem.F.plainAttrs_list PySem.F.slot_list_index PySem.F.type_list_index Zu pa (ye pb xx lE) kh nF ki lE iw,λF0 B F H Y Z d Q rs e w=>?_⟩;obtain⟨d1,d2,h1,h2,h3⟩:=fu e;refine qa F0 B F H Y Z d1 _ rs h1 λv1 F1 H1 x1 l1=>?_;cases d1 with
 |lst O=>
  unfold xM at h3;dsimp only at h3;by_cases hz:d2.sc=Â/\O.all D.sc=Â
  ·rw[if_pos hz]at h3;obtain⟨j,hj,h4⟩:=c9 h3;cases h4;obtain⟨p,vs,rfl,hp,Ig⟩:=l1.lst x1.fh;refine⟨.inl ⟨rfl,_,hp⟩,qb F0 B F1 H1 Y Z d2 _ (rs.ext x1) h2 λv2 F2 H2 x2 l2=>?_⟩;have hv:=Ig.vs hz.2;subst hv;have hx:=Al.v l2 hz.1;subst hx;exact⟨p,_,_,j,rfl,rfl,x2.hh.seq hp,D.flat hz.1,jd hz.2,by rw[RD hz.1 hz.2];exact hj,w _ F2 H2 (x1.trans x2)<|Al.of<|.int _⟩
  ·rw[if_neg hz]at h3;cases h3
 |_=>cases h3
theorem QX:∀{xs:List V} {us:List cJ},xs.length=us.length->(∀(i:Nat) (x:V) (u:cJ),xs[i]?=U x->us[i]?=U u->L2.Ì x u)->ez xs us
 |[],[],_,_=>.nil
 |[],_::_,h,_=>by cases h
 |_::_,[],h,_=>by cases h
 |x::xs,u::us,h,r=>.cons (r 0 x u rfl rfl) (QX (by simpa using h) λi y w hy hw=>r (i+1) y w (by simpa using hy) (by simpa using hw))
theorem XR {own:Nat}{xW:mR}
  (hm:S[i]?=U (.ow k)) (hN:X.N.Nodup) (Gp:X.N[i]?=U x) (hx:ë X.env.scope x)
  (B:pB X scope N own cap) (hc:X.calm=Â) (ho:om.length=own) (rK:∀i∈cap,i<S.length) (hi:Cm X J S n tg iter fi)
  (hg:∀cl KK fp s₀ H₀,A1 (nZ X scope cl N KK fp s₀ H₀) J (om++ke S cap) own n tg gg) (ht:∀cl KK fp s₀ H₀,Cp (nZ X scope cl N KK fp s₀ H₀) J (om++ke S cap) ifs p) (he:∀cl KK fp s₀ H₀,XO (nZ X scope cl N KK fp s₀ H₀) J (om++ke S cap) (k-1) qL f)
  (Bz:gk (.ListComp qL [⟨tg,iter,ifs,0⟩] scope pos) (U<|.Name x pos') xW.line X.env=pure Â:=by rfl)
  (hs:A0 X iter:=by intro _;rfl) (hf:uQ X x:=by walk_at "v2") :
  XS X J S rk (.Assign [.Name x pos'] (.ListComp qL [⟨tg,iter,ifs,0⟩] scope pos) xW) (È i<|fw fi own cap gg p f):=by
 obtain⟨wi,g,tt,te,pi,kg,pg,pt,pe,q⟩:=Qe (k:=k-1) (pos:=pos) B hc ho rK hi hg ht he;refine⟨_,Yc B hc pi kg pg pt pe hN Gp hx Bz hs hf,λF0 B F H Y Z o E rs e w=>?_⟩;obtain⟨d,h1,h2⟩:=c9 e;cases h2;cases k with
 |succ k=>exact q F0 B F H Y Z d _ rs h1 λv F' H' fp x l nd hf=>w _ F' H'<|rs.set hm x l nd hf
 |zero=>refine q F0 B F H Y Z d _ rs h1 λv F' H' fp x l nd hf=>?_;obtain⟨F2,x2,l2⟩:=l.freeze x hf;exact w _ F2 H' (rs.set hm x2 (Ow.zero l2) dZ λa z=>by cases z)
theorem Hv (hm:S[i]?=U (.ow k))(hN:X.N[i]?=U x:=by rfl)(hv:rZ X.env.scope x:=by walk_at "v1")(hd:kW x:=by decide)
  (kT:sU x:=by decide):XS X J S 0 (.Return (U<|.Name x pos') pos) (É<|M i):=by
 refine⟨_,u9<|xm hN hv hd kT,λF0 B F H Y Z o E rs e w=>?_⟩;obtain⟨d,h1,h2⟩:=c9 e;cases h2;obtain⟨fp,sl,nd,hb⟩:=rs.sl;obtain⟨f1,fr,i1,i2,i3,i4,i5⟩:=sl.put hm;obtain⟨v,CG,l⟩:=i4 d<|zp h1;obtain⟨F',x,l2⟩:=l.freeze (⟨rs.f0,rs.bh,rs.fh,rs.nf⟩:kR F0 B F H)<|λz hz=>hb z<|i1 z hz;exact⟨v,CG,w v F' H [] x.ff x.hh x.fh x.nf (Ow.zero l2) dZ λz hz=>by cases hz⟩
theorem ů (hu:X.A.units+1<lS)(ha:XE X J S n a f)(hb:XE X J S m b g)(hm:f9 .In b=Ã):XT X J S (.Compare a [.In] [b] pos) (tb λY=>(f Y).bind λx=>(g Y).bind λy=>(lN y x).bind λr=>U<|.bl r.isSome):=by
 obtain⟨ta,tb',pa,pb,q⟩:=ha.bin hb;refine⟨_,MS (Ϛ hu pa pb) hm,λF0 B F H Y Z t Q rs e w=>?_⟩;obtain⟨d0,h0,h9⟩:=c9 e;obtain⟨d1,d2,h1,h2,h3⟩:=fu h0;obtain⟨r,h4,h5⟩:=c9 h3;cases h5;cases h9;refine q F0 B F H Y Z d1 d2 _ rs h1 h2 λx y F' H' x1 l1 l2=>?_;obtain⟨a,o,rfl,g,_,h⟩:=IS (r:=r) x1.fh l2 l1 h4;refine⟨a,o,rfl,g,?_⟩;cases r with
 |none=>rw[h.none_of];exact⟨_,rfl,w F' H' x1⟩
 |some d=>obtain⟨u,rfl,B4⟩:=h.some_of;exact⟨_,rfl,w F' H' x1⟩
theorem iH.upd {R R':D->V->List cN->Prop}{vs:List V}(h:iH R O vs fp)(e:O[i]?=U d):∃v f,vs[i]?=U v/\R d v f/\(∀a∈f,a∈fp) /\
  ∀d',R' d' v f->fp.Nodup->(∀d v f',(∀a∈f',a∈fp)->(∀a∈f',a∉f)->R d v f'->R' d v f')->iH R' (O.set i d') vs fp:=by
 induction h generalizing i with
 |nil=>cases e
 |@cons _ _ _ _ f g h t ih=>
  cases i with
  |zero=>cases e;refine⟨_,f,rfl,h,λa ha=>cV _ ha,λd' hd nd ot=>?_⟩;rw[c8]at nd;exact .cons hd<|t.mono λd v f' hi r=>ot d v f' (λa ha=>cR _<|hi a ha) (λa ha hf=>nd.2.2 a hf a (hi a ha) rfl) r
  |succ i=>obtain⟨v,f2,h1,h2,h3,h4⟩:=ih (i:=i) e;refine⟨v,f2,h1,h2,λa ha=>cR _<|h3 a ha,λd' hd nd ot=>?_⟩;rw[c8]at nd;exact .cons (ot _ _ f (λa ha=>cV _ ha) (λa ha hf=>nd.2.2 a ha a (h3 a hf) rfl) h)<|h4 d' hd nd.2.1 λd v f' hi hn r=>ot d v f' (λa ha=>cR _<|hi a ha) hn r
def uA (i:Nat)(fj fl f:EF):SF:=λY=>(f Y).bind λd=>(M i Y).bind λo=>(fj Y).bind λj=>(fl Y).bind λl=>match o,j,l with
 |.lst rs,.int y,.int z=>(ó rs.length y).bind λy'=>(rs[y']?).bind λr=>(match r with
  |.lst O=>(vN O z d).bind λds'=>U<|.nx<|Y.set i<|U<|.lst<|rs.set y'<|.lst ds'
  |_=>G)
 |_,_,_=>G
theorem Ql (i:Nat){j l:Expr}{fl:EF}(hm:S[i]?=U (.ow 2))(hj:XE X J S n j fj)(hl:XE X J S m l fl)(hp:n8 j)(he:XE X J S 0 e f)(hN:X.N[i]?=U x:=by rfl)(hv:rZ X.env.scope x:=by walk_at "v1")(hd:kW x:=by decide)
  (kT:sU x:=by decide)
  (ha:∀v,o8 (.Subscript (.Subscript (.Name x p1) j p2) l qY) X.env v=(do
   let ov ← ir [v] (eW (.Subscript (.Name x p1) j p2) X.env)
   let iv ← ir [v,ov] (eW l X.env)
   kN qY
   ir [v,ov,iv] (xB ov iv v)
   release [v,ov,iv] []):=by intro _;rfl)
  (hs:swapsWithSole [.Subscript (.Subscript (.Name x p1) j p2) l qY] e pos.line X.env=pure Ã:=by rfl) (hw:swappedStores [.Subscript (.Subscript (.Name x p1) j p2) l qY] e X.env=pure G:=by rfl)
  (h1:(gx [.Subscript (.Subscript (.Name x p1) j p2) l qY] X.env).map (·.2)=[o8 (.Subscript (.Subscript (.Name x p1) j p2) l qY) X.env]:=by rfl) :
  XS X J S rk (.Assign [.Subscript (.Subscript (.Name x p1) j p2) l qY] e pos) (uA i fj fl f):=by
 obtain⟨t,pt,qt⟩:=he;obtain⟨tj,GZ,G0⟩:=hj;obtain⟨tl,UQ,UU⟩:=hl;refine⟨_,Φ pt (Χ (Jx QE (xm hN hv hd kT) GZ hp) UQ PU ha) hs hw h1,λF0 B F H Y Z o E rs e z=>?_⟩;obtain⟨d,g1,g2⟩:=c9 e;obtain⟨d1,BY,g3,g4,g5⟩:=fu g2;obtain⟨SQ,g6,g7⟩:=c9 g5;refine qt F0 B F H Y Z d _ rs g1 λv0 F1 H1 x1 l0=>?_;have qO:=rs.ext x1;obtain⟨f1,fr,n1,b1,dj,i4,cf,put⟩:=qO.put (F':=F) (H':=H) hm;obtain⟨v,hσ,ow⟩:=i4 d1<|zp g3;refine⟨v,hσ,G0 F0 B F1 H1 Y Z BY _ qO g4 λvj F2 H2 x2 lj=>?_⟩;cases d1 with
 |lst lY=>
  cases BY with
  |int yi=>
   cases SQ with
   |int zi=>
    obtain⟨y',k1,k2⟩:=c9 g7;obtain⟨r,k3,k4⟩:=c9 k2;cases r with
    |lst O=>
     obtain⟨ds',k5,k6⟩:=c9 k4;cases k6;obtain⟨jn,k8,k9⟩:=c9 k5;cases k9;obtain⟨ad,vs,Bq,rfl,rfl,hF,hH,ol⟩:=ow.lst_inv;obtain⟨vr,f2,q1,q2,q3,q4⟩:=iH.upd (R':=Ow X.K J F2 (upd H2 0<|.lst []) 1) ol k3;obtain⟨bd,us,JS,rfl,rfl,Nx,Gd,EA⟩:=q2.lst_inv;clear q4;have hA:H2 ad=U (.lst vs):=x2.hh _ _ hH;refine⟨ad,vs,yi,.ref bd,rfl,lj.int,iE.of hA,?_,?_⟩
     ·unfold atI;rw[←ol.length,k1];exact q1
     ·refine UU F0 B F2 H2 Y Z _ _ (qO.ext x2) g6 λvl F3 H3 x3 ll=>?_;have tE:=x2.trans x3;have hB:H3 bd=U (.lst us):=tE.hh _ _ Gd;have fB:F3 bd=G:=tE.nf bd _ Gd nofun Nx;have e0:=EA.nil0;subst e0;have Fh:=dO.mp n1;have NH:bd∈Bq:=q3 bd cK;have AJ:ad≠bd:=λz=>Fh.1<|z▸NH;refine⟨bd,us,zi,jn,rfl,ll.int,hB,by rw[←EA.length];exact k8,?_⟩;obtain⟨vr',f2',Ob,UR,q3',US⟩:=iH.upd (R':=Ow X.K J F3 (upd H3 bd<|.lst<|us.set jn v0) 1) ol k3;rw[q1]at Ob;cases Ob;obtain⟨bd',us',Tq,eb,rfl,_,Ny,Lb⟩:=UR.lst_inv;cases eb;have e1:=Lb.nil0;subst e1;rw[Gd]at Ny;cases Ny;refine z Z F3 _ (qO.change hm tE hσ b1 dj cf put (cQ _ NH) fB (.inr<|.lst (tE.nf ad _ hH nofun hF) (by rw[zo AJ];exact tE.hh _ _ hH)<|US (.lst<|O.set jn d) (.inr<|.lst fB zu<|iH.set0 ⟨Dt.mono tE.ff l0,rfl⟩ (λ_ _ _ q=>q.2) jn<|EA.mono λ_ _ _ _ q=>⟨q.1.mono tE.ff,q.2⟩) Fh.2 ?_) (fn:=ad::Bq) n1 λa ha=>.inl ha);intro d0 v1 f' KA J9 o';refine(o'.ext tE).frame (.refl _) λa' Fa=>⟨zo λe=>J9 a' Fa (by rw[e];exact cK),((o'.ext tE).cells a' Fa).1⟩
    |_=>cases k4
   |_=>cases g7
  |_=>cases g7
 |_=>cases g7
theorem SL.fz (h0:SL K J F B H S Y Z fp)(s:ej F H):fp.Nodup->S[i]?=U (.ow k)->∃f1:List cN,(∀a∈f1,a∈fp) /\
  ∃kP,SL K J (nk F H f1) B H (S.set i<|.ow 0) Y Z kP/\kP.Nodup/\∀a∈kP,a∈fp/\a∉f1:=by
 induction h0 generalizing i with
 |nil=>intro _ e;simp at e
 |@no m0 o0 S Y Z fp t ih=>
  intro nd e;cases i with
  |zero=>obtain⟨w1,w2,w3⟩:=wf (F:=F) (H:=H) (fp:=[]) s (λa z=>by cases z);exact⟨[],λa z=>(by cases z),fp,.no<|t.frame w1 λa z=>⟨rfl,by unfold nk;rw[if_neg<|by simp];exact(t.cells a z).1⟩,nd,λa z=>⟨z,by simp⟩⟩
  |succ i=>obtain⟨f1,h1,kP,q1,q2,q3⟩:=ih (i:=i) nd (by simpa using e);exact⟨f1,h1,kP,.no q1,q2,q3⟩
 |@al n0 d0 v0 S Y Z fp h t ih=>
  intro nd e;cases i with
  |zero=>simp at e
  |succ i=>obtain⟨f1,h1,kP,q1,q2,q3⟩:=ih (i:=i) nd (by simpa using e);obtain⟨w1,w2,w3⟩:=wf (F:=F) (H:=H) (fp:=f1) s<|λa z=>(t.cells a<|h1 a z).1;exact⟨f1,h1,kP,.al (h.mono w1<|.refl _) q1,q2,q3⟩
 |@px d0 v0 S Y Z fp h t ih=>
  intro nd e;cases i with
  |zero=>simp at e
  |succ i=>obtain⟨f1,h1,kP,q1,q2,q3⟩:=ih (i:=i) nd (by simpa using e);obtain⟨w1,w2,w3⟩:=wf (F:=F) (H:=H) (fp:=f1) s<|λa z=>(t.cells a<|h1 a z).1;exact⟨f1,h1,kP,.px (h.mono w1<|.refl _) q1,q2,q3⟩
 |@so d0 x S Y Z f fp h t ih=>
  intro nd e;cases i with
  |zero=>simp at e
  |succ i=>
   obtain⟨n1,n2,n3⟩:=c8.mp nd;obtain⟨f1,h1,kP,q1,q2,q3⟩:=ih (i:=i) n2 (by simpa using e);obtain⟨w1,w2,w3⟩:=wf (F:=F) (H:=H) (fp:=f1) s<|λa z=>(t.cells a<|h1 a z).1;refine⟨f1,λa z=>cR _<|h1 a z,f++kP,.so (h.frame w1 λa z=>⟨rfl,?_⟩) q1,c8.mpr ⟨n1,q2,λa z b zb=>n3 a z b (q3 b zb).1⟩,λa z=>?_⟩
   ·unfold nk;rw[if_neg λq=>n3 a z a (h1 a q) rfl];exact(h.cells a z).1
   ·rcases dc.mp z with z|z
    ·exact⟨cV _ z,λq=>n3 a z a (h1 a q) rfl⟩
    ·exact⟨cR _ (q3 a z).1,(q3 a z).2⟩
 |@ow n0 d0 v0 S Y Z f fp h t ih=>
  intro nd e;cases i with
  |zero=>obtain⟨w1,w2,w3⟩:=wf (F:=F) (H:=H) (fp:=f) s<|λa z=>(h.cells a z).1;obtain⟨n1,n2,n3⟩:=c8.mp nd;refine⟨f,λa z=>cV _ z,[]++fp,.ow ⟨h.dt w1 w3,rfl⟩<|t.frame w1 λa z=>⟨rfl,?_⟩,n2,λa z=>⟨cR _ z,λq=>n3 a q a z rfl⟩⟩;unfold nk;rw[if_neg λq=>n3 a q a z rfl];exact(t.cells a z).1
  |succ i=>
   obtain⟨n1,n2,n3⟩:=c8.mp nd;obtain⟨f1,h1,kP,q1,q2,q3⟩:=ih (i:=i) n2 (by simpa using e);obtain⟨w1,w2,w3⟩:=wf (F:=F) (H:=H) (fp:=f1) s<|λa z=>(t.cells a<|h1 a z).1;refine⟨f1,λa z=>cR _<|h1 a z,f++kP,.ow (h.frame w1 λa z=>⟨rfl,?_⟩) q1,c8.mpr ⟨n1,q2,λa z b zb=>n3 a z b (q3 b zb).1⟩,λa z=>?_⟩
   ·unfold nk;rw[if_neg λq=>n3 a z a (h1 a q) rfl];exact(h.cells a z).1
   ·rcases dc.mp z with z|z
    ·exact⟨cV _ z,λq=>n3 a z a (h1 a q) rfl⟩
    ·exact⟨cR _ (q3 a z).1,(q3 a z).2⟩
theorem SL.forget (m':Mo)(i:Nat)(h0:SL K J F B H S Y Z fp):∃kP,SL K J F B H (S.set i m') (Y.set i G) Z kP/\kP.Sublist fp:=by
 induction h0 generalizing i with
 |nil=>exact⟨[],.nil,.refl _⟩
 |@no m0 o0 S Y Z fp t ih=>
  cases i with
  |zero=>exact⟨fp,.no t,.refl _⟩
  |succ i=>obtain⟨kP,q1,q2⟩:=ih i;exact⟨kP,.no q1,q2⟩
 |@al n0 d0 v0 S Y Z fp h t ih=>
  cases i with
  |zero=>exact⟨fp,.no t,.refl _⟩
  |succ i=>obtain⟨kP,q1,q2⟩:=ih i;exact⟨kP,.al h q1,q2⟩
 |@px d0 v0 S Y Z fp h t ih=>
  cases i with
  |zero=>exact⟨fp,.no t,.refl _⟩
  |succ i=>obtain⟨kP,q1,q2⟩:=ih i;exact⟨kP,.px h q1,q2⟩
 |@so d0 x S Y Z f fp h t ih=>
  cases i with
  |zero=>exact⟨fp,.no t,nv _ _⟩
  |succ i=>obtain⟨kP,q1,q2⟩:=ih i;exact⟨_,.so h q1,(wW.refl _).append q2⟩
 |@ow n0 d0 v0 S Y Z f fp h t ih=>
  cases i with
  |zero=>exact⟨fp,.no t,nv _ _⟩
  |succ i=>obtain⟨kP,q1,q2⟩:=ih i;exact⟨_,.ow h q1,(wW.refl _).append q2⟩
theorem RS.fz (rs:RS K J F0 B S F H Y Z)(hm:S[i]?=U (.ow k)):∃F',RS K J F0 B (S.set i<|.ow 0) F' H Y Z:=by
 obtain⟨fp,sl,nd,hb⟩:=rs.sl;obtain⟨f1,h1,kP,q1,q2,q3⟩:=sl.fz rs.fh nd hm;obtain⟨w1,w2,w3⟩:=wf (F:=F) (H:=H) (fp:=f1) rs.fh<|λa z=>(sl.cells a<|h1 a z).1;refine⟨nk F H f1,rs.f0.trans w1,rs.bh,w2,λa o ho nt hn=>?_,kP,q1,q2,λa z=>hb a (q3 a z).1⟩;have:¬a∈f1:=λz=>by rw[hb a<|h1 a z]at ho;cases ho
 unfold nk;rw[if_neg this];exact rs.nf a o ho nt hn
theorem RS.forget (m':Mo)(i:Nat)(rs:RS K J F0 B S F H Y Z):RS K J F0 B (S.set i m') F H (Y.set i G) Z:=by obtain⟨fp,sl,nd,hb⟩:=rs.sl;obtain⟨kP,q1,q2⟩:=sl.forget m' i;exact⟨rs.f0,rs.bh,rs.fh,rs.nf,kP,q1,q2.nodup nd,λa z=>hb a<|q2.subset z⟩
def BI (i:Nat):ï->ï
 |.nx Y=>.nx<|Y.set i G
 |.rt d=>.rt d
 |.bk Y=>.bk<|Y.set i G
 |.ct Y=>.ct<|Y.set i G
def ù (i:Nat)(u:SF):SF:=λY=>(u Y).bind λo=>U<|BI i o
theorem XU (hm:S[i]?=U (.ow k)):(S.set i<|.ow 0).set i (.ow k)=S:=by
 rw[wY];apply nN;intro j;rw[AV];split
 ·next h=>subst h;rw[hm];have:=(dM.mp hm).1;rw[if_pos this]
 ·rfl
theorem Ŋ {t:sx->St->Hp->Prop}(hm:S[i]?=U (.ow k))
  (q:∀(F0 B F H:Hp) (Y:Env) (Z:St) (o:ï) (E:sx),RS X.K J F0 B (S.set i<|.ow 0) F H Y Z->w Y=U o->sW X.K J F0 B (S.set i<|.ow 0) rk E o->t E Z H)
  (F0 B F H:Hp) (Y:Env) (Z:St) (o:ï) (E:sx) (rs:RS X.K J F0 B S F H Y Z) (e:ù i w Y=U o) (z:sW X.K J F0 B S rk E o):t E Z H:=by
 obtain⟨F',r2⟩:=rs.fz hm;obtain⟨o1,e1,L⟩:=c9 e;refine q F0 B F' H Y Z o1 E r2 e1 ?_;have back:∀{ρ':Env} {σ':St} {F2 H2:Hp},RS X.K J F0 B (S.set i<|.ow 0) F2 H2 ρ' σ'->RS X.K J F0 B S F2 H2 (ρ'.set i G) σ':=λr=>by have:=r.forget (.ow k) i;rw[XU hm]at this;exact this
 cases o1 with
 |nx ρ'=>cases L;exactλσ' F2 H2 r=>z σ' F2 H2<|back r
 |rt d=>cases L;exact z
 |bk ρ'=>cases L;exactλσ' F2 H2 r=>z σ' F2 H2<|back r
 |ct ρ'=>cases L;exactλσ' F2 H2 r=>z σ' F2 H2<|back r
theorem Jq {Oj:List eo}(hm:S[i]?=U (.ow k))(h:wM X J (S.set i<|.ow 0) rk Oj w):wM X J S rk Oj (ù i w):=by obtain⟨t,pt,qt⟩:=h;exact⟨t,pt,Ŋ hm qt⟩
theorem ĕ:BI i (.rt d)=.rt d:=rfl
theorem Ĕ:BI i (.nx Y)=.nx (Y.set i G):=rfl
noncomputable def rS:List D->List D->List D
 |x::xs,y::ys=>.tup [x,y]::rS xs ys
 |_,_=>[]
theorem Mf:∀{xs ys:List D} {i:Nat} {d:D},(rS xs ys)[i]?=U d->∃x y,xs[i]?=U x/\ys[i]?=U y/\d=.tup [x,y]
 |[],_,_,_,h=>by simp[rS]at h
 |_::_,[],_,_,h=>by simp[rS]at h
 |x::xs,y::ys,0,d,h=>by simp[rS]at h;subst h;exact⟨x,y,rfl,rfl,rfl⟩
 |x::xs,y::ys,i+1,d,h=>by obtain⟨u,v,h1,h2,h3⟩:=Mf (xs:=xs) (ys:=ys) (i:=i) (d:=d) (by simpa[rS]using h);exact⟨u,v,by simpa using h1,by simpa using h2,h3⟩
theorem Mg:∀{xs ys:List D},(rS xs ys).length=min xs.length ys.length
 |[],_=>by simp[rS]
 |_::_,[]=>by simp[rS]
 |x::xs,y::ys=>by simp[rS,Mg (xs:=xs) (ys:=ys)]
theorem Ů {a b:cN}{vs:List V}{es:List D}(hp:Pr (Al K J F B n) O vs)(xL:Pr (Al K J F B n) es us)(keep:∀F' H',ej F F'->ej B H'->ej F' H'->iE K H' a vs)(GF:∀F' H',ej F F'->ej B H'->ej F' H'->iE K H' b us):AD K J F B (n+1) (JG K a b) (rS O es):=by intro i F' H' s1 s2 s3;have hs:iE K H' a vs:=keep F' H' s1 s2 s3;have Ef:iE K H' b us:=GF F' H' s1 s2 s3;refine⟨λd hd=>?_,λhl=>⟨vs,us,⟨hs,Ef⟩,by rw[←hp.length,←xL.length];rw[Mg]at hl;lia⟩⟩;obtain⟨x,y,hx,hy,rfl⟩:=Mf hd;obtain⟨v,hv,l⟩:=hp.get' hx;obtain⟨u,hu,l'⟩:=xL.get' hy;refine⟨⟨vs,us,v,u,⟨hs,Ef⟩,hv,hu⟩,λz H2 q=>?_⟩;obtain⟨r,v',u',hr,rfl,rfl,q1,q2⟩:=q;have e1:=q1 vs hs;have L:=q2 us Ef;rw[hv]at e1;rw[hu]at L;cases e1;cases L;exact⟨_,kR.newS s3 hr _,.inr<|.tup zu<|.cons (l.mono (s1.trans<|wm (s3.free hr) _)<|.refl _)<|.cons (l'.mono (s1.trans<|wm (s3.free hr) _)<|.refl _) .nil⟩
def BS:List D->Option (List D)
 |[.lst xs,.lst ys]=>U<|rS xs ys
 |_=>G
theorem zuq {kt:Nat}(hm:X.mg "zip"=G)(ha:XA X J S [a,b] [n,n] fs)(hg:Gl X "zip":=by rfl)(hs:dJ [a,b] X.env=[(Ã,eW a X.env),(Ã,eW b X.env)]:=by rfl)(uU:SN X b:=by rfl) :
  Cm X J S (n-1+1) (.Tuple tI kt pt) (.Call (.Name "zip" pp) [a,b] [] pos) (λY=>(fs Y).bind BS):=by
 obtain⟨t,pt,_,qt⟩:=ha;refine⟨_,ſ hg hm pt hs uU,λF0 B F H Y Z O R rs e w=>?_⟩;obtain⟨ds',h1,h2⟩:=c9 e;refine qt F0 B F H Y Z _ _ rs h1 λvs F' H' x l=>?_;cases l with
 |cons h t=>
  cases t with
  |cons h' t=>
   cases t;rename_i d v d' v';cases d with
   |lst xs=>
    cases d' with
    |lst ys=>cases h2;obtain⟨a,vs,rfl,ha,hp⟩:=h.lst x.fh;obtain⟨b,us,rfl,hb,xL⟩:=h'.lst x.fh;exact⟨a,b,rfl,⟨vs,us,ha,hb⟩,w _ F' H' x<|Ů hp xL (λF2 H2 s1 s2 s3=>s2.seq ha)<|λF2 H2 s1 s2 s3=>s2.seq hb⟩
    |_=>cases h2
   |_=>cases h2
theorem zur:yF (cJ.type "list_reverseiterator") (Str.ofString "__len__")=pure G:=by with_unfolding_all rfl
theorem ZZ:yF (cJ.type "list_reverseiterator") (Str.ofString "__length_hint__")=pure (U<|cJ.builtin "list_reverseiterator.__length_hint__"):=by with_unfolding_all rfl
theorem Y6:splitId "list_reverseiterator.__length_hint__"=U ("list_reverseiterator","__length_hint__"):=by with_unfolding_all rfl
theorem zus:isSubtype (cJ.type "list_reverseiterator") (cJ.type "list_reverseiterator")=pure Â:=by with_unfolding_all rfl
variable {A:d6}{it:cN}{prog:eL}
theorem Z0 {w:d8}{E:cJ->cU->Prop}{s:cU}{i:Int}{Q:Bool->cU->Prop}(st:s.heap.IsRevIter it l i)(h:Q Ã s):dg (dz prog w) A (Builtin.List.listLengthHint<|cJ.ref it) Q E s:=by unfold Builtin.List.listLengthHint;refine cO<|wK st.typeIs zur ?_;simp only[];refine cO<|wK st.typeIs ZZ ?_;simp only[Y6];refine cO<|wpAny_isInstance st.typeIs zus ?_;rw[if_neg<|by decide];rw[if_pos<|by with_unfolding_all decide,if_neg<|by decide];exact dw h
theorem XX {w:d8}{s:cU}{R:Result->cU->Prop}(hh:A.handled=G)(st:s.heap.IsRevIter it l<|(items.size:Int)-1)(hl:s.heap.IsList l items)(AJ:l≠it)(hsz:items.size<=sizeLine)(W':cN)(res:cJ)(c₀:Nat)(hS:s.heap.get? W'=U { cls:=cJ.type "list",data:=rc.seq #[] c₀ })(TF:W'≠l)
    (hR:∀(h':c7) (tk:Nat) (sA:Array cJ) (c':Nat),(∀(b:cN) (o:gz),b≠W'->b≠it->s.heap.get? b=U o->h'.get? b=U o)->h'.get? W'=U { cls:=cJ.type "list",data:=rc.seq sA c' }->ItemsOf (λi v=>items[items.size-1-i]?=U v) sA items.size->R (Except.ok<|Flow.ret res) { s with heap:=h',toks:=tk }) :
    dg (dz prog w) A.in1 (Builtin.List.listExtendWith (cJ.ref W') (cJ.ref it) res) (λfin s'=>match fin with|Fin.done f=>R (Except.ok f) s'|Fin.again c'=>c'.quiet=Â/\lx (dz prog w) A c' R s') (λe s'=>R (Except.error e) s') s:=by
  have Gf:W'≠it:=λe=>by obtain⟨o,h1,h2,h3⟩:=st;rw[←e,hS]at h1;cases h1;simp at h2
  have W:=(Walks.listRev (prog:=prog) (w:=w) (A:=A.in1) hh it l AJ items).toS;have key:lx (dz prog w) A (wJ.builtin "list.extend.loop" { pos:=[cJ.ref W',cJ.ref it,res] }) R s:=by refine codeAny_extend_loopS W hsz W' (by simp[Gf,TF]) res items.size 0 s #[] c₀ rfl (e8 _) ⟨e8 _,by simpa using st,hl⟩ hS (ItemsOf.nil _) λs' sA c' hm BZ Bs=>?_;rw[Moved.eq_with hm];exact hR s'.heap s'.toks sA c' (λb o hb hi e=>hm.heap b o (by simp[hb,hi]) e) BZ Bs
  unfold Builtin.List.listExtendWith;refine cO<|wpAny_typeOf st.typeIs ?_;have h1:Builtin.List.listSameRef (cJ.ref W') (cJ.ref it)=Ã:=by simp[Builtin.List.listSameRef,Gf]
  have h2:(cJ.type "list_reverseiterator" == cJ.type "list")=Ã:=by decide
  have h3:(cJ.type "list_reverseiterator" == cJ.type "tuple")=Ã:=by decide
  simp only[h1,h2,h3,C6,eM,if_false];refine cO<|wpAny_pyIter_revIter st ?_;refine cO<|iR<|Z0 st ?_;rw[if_neg<|by with_unfolding_all decide];exact dw ⟨plainId_quiet F.plain_extend_loop _,key⟩
theorem WH {w:d8}{E:cJ->cU->Prop}{s:cU}{Q:cJ->cU->Prop}(hh:A.handled=G)(st:s.heap.IsRevIter it l<|(items.size:Int)-1)(hl:s.heap.IsList l items)(AJ:l≠it)(hsz:items.size<=sizeLine)
    (hQ:∀(h':c7) (tk:Nat) (sA:Array cJ) (c':Nat),(∀(b:cN) (o:gz),b≠it->s.heap.get? b=U o->h'.get? b=U o)->h'.get? s.heap.objs.size=U { cls:=cJ.type "list",data:=rc.seq sA c' }->ItemsOf (λi v=>items[items.size-1-i]?=U v) sA items.size->Q (cJ.ref s.heap.objs.size) { s with heap:=h',toks:=tk }) :
    dg (dz prog w) A (call (cJ.type "list") [cJ.ref it]) Q E s:=by
  refine callType_codes (Q₁:=λobj s₁=>obj=cJ.ref s.heap.objs.size/\s₁ = { s with heap:=s.heap.push { cls:=cJ.type "list",data:=rc.seq #[] } }) F.called_list (F.typeCall_list_1<|cJ.ref it) F.entry_list_init (code_list_new (cJ.ref it) ⟨rfl,rfl⟩) λobj s₁ h₁=>?_;obtain⟨rfl,rfl⟩:=h₁;have hS:=dq s.heap (o:={ cls:=cJ.type "list",data:=rc.seq #[] }) rfl;refine⟨⟨_,hS,rfl⟩,F.args_list_init_2 (cJ.ref s.heap.objs.size)<|cJ.ref it,?_⟩;have GJ:∀b o,s.heap.get? b=U o->b≠s.heap.objs.size:=λb o e=>dB<|cW e;have T8:s.heap.objs.size≠l:=λe=>by obtain⟨o,h1,_⟩:=hl;exact GJ l o h1 e.symm
  have Ur:(#[]:Array cJ).size<=sizeLine:=e8 _;have Us:(#[]:Array cJ).size<=sizeLine+1:=e8 _;show dg _ _ (Builtin.List.listItems (cJ.ref s.heap.objs.size) >>= _) _ _ _;refine cO ?_;show dg _ _ (seqItems? (cJ.ref s.heap.objs.size) >>= _) _ _ _;refine cO<|wpAny_seqItems hS rfl ?_;refine dw ?_;show dg _ _ (updateSeq s.heap.objs.size (λ_=>#[]) >>= _) _ _ _;refine cO<|wpAny_updateSeq hS rfl ?_ Ur Us;have TH:((s.heap.push { cls:=cJ.type "list",data:=rc.seq #[] }).update s.heap.objs.size<|gz.mapSeq λ_=>#[]).get? s.heap.objs.size=U { cls:=cJ.type "list",data:=rc.seq #[] 0 }:=gS (gz.mapSeq λ_=>#[]) hS rfl;have Lc:∀(b:cN) (o:gz),b≠s.heap.objs.size->s.heap.get? b=U o->((s.heap.push { cls:=cJ.type "list",data:=rc.seq #[] }).update s.heap.objs.size<|gz.mapSeq λ_=>#[]).get? b=U o:=λb o hb e=>(fH _ _<|Ne.symm hb).trans<|cS _ e;refine cO<|wpAny_letGo ?_;obtain⟨oi,i1,i2,i3⟩:=st;obtain⟨ol,l1,l2,l3⟩:=hl;refine XX (A:=A.in1) (R:=wants (λr s₂=>r=cJ.none/\Q (cJ.ref s.heap.objs.size) s₂) E) (s:={ s with heap:=(s.heap.push { cls:=cJ.type "list",data:=rc.seq #[] }).update s.heap.objs.size (gz.mapSeq λ_=>#[]) }) (l:=l) (items:=items) hh ⟨oi,Lc it oi (GJ it oi i1) i1,i2,i3⟩ ⟨ol,Lc l ol (GJ l ol l1) l1,l2,l3⟩ AJ hsz s.heap.objs.size cJ.none _ TH T8 λh' tk sA c' hk BZ Bs=>⟨rfl,hQ h' tk sA c' (λb o hb e=>hk b o (GJ b o e) hb<|Lc b o (GJ b o e) e) BZ Bs⟩
variable {t3:mR}
def DH (K:cL):V->Hp->VK->Prop:=λx H Q=>∃a xs,x=.ref a/\iE K H a xs/\∀p,H p=G->Q (.ref p) (upd H p<|.lst xs.reverse)
def Hg (K:cL)(te:TE):TE:=λZ H Q=>te Z H λx H1=>DH K x H1 Q
theorem zut {te:TE}(hc:X.calm=Â)(hg:Gl X "list")(hm:X.mg "list"=G)(Bw:Gl X "reversed")(Ai:X.mg "reversed"=G)(he:PE X e te)(hs:SN X e:=by rfl)
  (uU:dJ [.Call (.Name "reversed" p2) [e] [] t3] X.env=[(Ã,eW (.Call (.Name "reversed" p2) [e] [] t3) X.env)]:=by rfl) :
  PE X (.Call (.Name "list" p1) [.Call (.Name "reversed" p2) [e] [] t3] [] pos) (Hg X.K te):=by
 intro cM s Z H Q I h;refine fR (vd I hg hm Ht ?_ (by decide)<|by decide);refine eJ ?_ uU rfl;rw[uU];show dg _ _ (spliced ((Ã,eW (.Call (.Name "reversed" p2) [e] [] t3) X.env)::[])) _ _ s;refine Calls.spliced_cons ?_;refine fR (vd (u:=.type "reversed") I Bw Ai (by rfl) ?_ (by decide)<|by decide);refine eJ (gc ((ye he xx hs) t3 cM s Z H (λvs H1=>match vs with|[x]=>DH X.K x H1 Q|_=>False) I h) λus s1 hq=>?_) hs rfl;obtain⟨vs,H1,I1,r,q⟩:=hq
 match vs,q with
 |[x],q=>
  obtain⟨a,xs,rfl,hq,q⟩:=q;obtain⟨u,rfl,ru⟩:=r.one;cases ru;obtain⟨eE,rv,pl,hz⟩:=I1.list hq;have hl:=rv.length;refine call_reversed_list pl.isList<|Calls.spliced_nil ?_;have I2:L2.Ê X cM Z H1 { s1 with heap:=s1.heap.push (De a<|(eE.toArray.size:Int)-1) }:=I1.kept (t':=s1.toks) λb o e=>cS _ e;have st:(s1.heap.push<|De a<|(eE.toArray.size:Int)-1).IsRevIter s1.heap.objs.size a ((eE.toArray.size:Int)-1):=⟨_,dq _ rfl,rfl,by simp[De]⟩;have UN:(s1.heap.push<|De a<|(eE.toArray.size:Int)-1).IsList a eE.toArray:=by obtain⟨o,h1,h2⟩:=pl.isList;exact⟨o,cS _ h1,h2⟩
  have SI:a≠s1.heap.objs.size:=by obtain⟨o,h1,h2⟩:=pl.isList;exact dB<|cW h1
  refine WH (I2.ok.hd hc) st UN SI (by rw[de,←hl];exact hz) λh' tk sA c' kp hS Bs=>?_;have Dw:(s1.heap.push<|De a<|(eE.toArray.size:Int)-1).objs.size=s1.heap.objs.size+1:=by simp[c7.push]
  have hv:ez xs.reverse sA.toList:=by
   obtain⟨e1,L⟩:=Bs;have e3:sA.size=eE.length:=by rw[e1,de]
   refine QX ((qQ).trans<|hl.trans<|e3.symm.trans dQ.symm) λi x u hx hu=>?_;have hi:i<xs.length:=by have:=(dM.mp hx).1;rwa[qQ]at this
   rw[List.getElem?_reverse hi]at hx;obtain⟨u',B4,ru⟩:=rv.get hx;have:=L i u (by simpa using hu);rw[de,←hl]at this;have h3:eE[xs.length-1-i]?=U u:=by simpa using this
   rw[B4]at h3;cases h3;exact ru
  have lO:xs.reverse.length<=sizeLine:=by rw[qQ];exact hz
  refine⟨.ref _,_,I1.laid (t':=tk) (λb o e=>kp b o (dB<|cW e)<|cS _ e) (by rw[Dw];lia) (show hV X.prog X.w _ h' _ (.lst _)from⟨lO,sA.toList,c',hv,hS⟩),rfl,q _<|I1.hok.fresh<|by rw[Dw];lia⟩
def Dz:D->Option D
 |.lst O=>U<|.lst O.reverse
 |_=>G
theorem zuu (hn:n<=1)(hc:X.calm=Â)(hg:Gl X "list")(hm:X.mg "list"=G)(Bw:Gl X "reversed")(Ai:X.mg "reversed"=G)(he:XE X J S n e f)(hs:SN X e:=by rfl)
  (uU:dJ [.Call (.Name "reversed" p2) [e] [] t3] X.env=[(Ã,eW (.Call (.Name "reversed" p2) [e] [] t3) X.env)]:=by rfl) :
  XO X J S 1 (.Call (.Name "list" p1) [.Call (.Name "reversed" p2) [e] [] t3] [] pos) (e1 Dz f):=by
 obtain⟨t,pt,qt⟩:=he;refine⟨_,zut hc hg hm Bw Ai pt hs uU,λF0 B F H Y Z r Q rs e w=>?_⟩;obtain⟨d,h1,h2⟩:=c9 e;refine qt F0 B F H Y Z d _ rs h1 λv F1 H1 x1 l=>?_;cases d with
 |lst O=>cases h2;obtain⟨a,vs,rfl,ha,hp⟩:=Al.lst1 hn l x1.fh;exact⟨a,vs,rfl,ha,v9 x1.fh (Pr.reverse hp) λv F2 H2 fp x2 l2 nd hf=>w v F2 H2 fp (x1.trans x2) l2 nd λz hz=>x1.hh.free<|hf z hz⟩
 |_=>cases h2
def yZ (f:EF):EF:=λY=>(f Y).bind λd=>if d.sc=Â then U d else G
theorem DS (he:XE X J S n e f):XO X J S k e (yZ f):=by
 obtain⟨t,p,q⟩:=he;refine⟨t,p,λF0 B F H Y Z d Q r e w=>?_⟩;obtain⟨d0,h1,h2⟩:=c9 e;by_cases hs:d0.sc=Â
 ·rw[if_pos hs]at h2;cases h2;exact q F0 B F H Y Z d Q r h1 λv F' H' x l=>w v F' H' [] x (Ow.scal (Al.scal l hs) hs) dZ λa z=>(by cases z)
 ·rw[if_neg hs]at h2;cases h2
def nI:D->Bool
 |.lst _=>Â
 |.dK _ _=>Â
 |.dT _ _=>Â
 |.obj _ _ _=>Â
 |_=>Ã
theorem Ow.cell {v:V}(h:Ow K J F H 1 d v fp)(hc:nI d=Â):∃a f,v=.ref a/\fp=a::f:=by
 cases d with
 |lst O=>obtain⟨a,vs,fr,rfl,rfl,_⟩:=h.lst_inv;exact⟨_,_,rfl,rfl⟩
 |dK ks O=>obtain⟨a,vs,fr,rfl,rfl,_⟩:=h.dK_inv;exact⟨_,_,rfl,rfl⟩
 |dT ks O=>obtain⟨a,vs,fr,rfl,rfl,_⟩:=h.dT_inv;exact⟨_,_,rfl,rfl⟩
 |obj c ns O=>obtain⟨a,dx,vs,fr,rfl,⟨fb,rfl,_⟩,_⟩:=h.obj_inv;exact⟨_,_,rfl,rfl⟩
 |_=>cases hc
abbrev EM:=Env->Option (D×Env)
def xG (X:Cx)(J:Nat->cN)(S:List Mo)(st:List eo)(f:EM):Prop:=∃t,yU X st t/\∀(F0 B F H:Hp) (Y ρ':Env) (Z:St) (d:D) (E:sx),RS X.K J F0 B S F H Y Z->f Y=U (d,ρ')->(∀v σ' F' H',RS X.K J F0 B S F' H' ρ' σ'->Dt X.K J F' d v->E.rt v H')->t E Z H
def Ó (f:SF)(g:EM):EM:=λY=>(f Y).bind λo=>match o with
 |.nx ρ'=>g ρ'
 |_=>G
def á (f:EF):EM:=λY=>(f Y).bind λd=>U (d,Y)
theorem vv (he:XE X J S 0 e f):xG X J S [.Return (U e) pos] (á f):=by obtain⟨t,pt,qt⟩:=he;refine⟨_,Hr<|u9 pt,λF0 B F H Y ρ' Z d E rs e z=>?_⟩;obtain⟨d',h1,h2⟩:=c9 e;cases h2;exact qt F0 B F H Y Z _ _ rs h1 λv F' H' x l=>z v Z F' H' (rs.ext x) l
theorem z6 {gm:EM}(h1:XS X J S 0 st u)(h2:xG X J S Î gm):xG X J S (st::Î) (Ó u gm):=by
 obtain⟨t,pt,qt⟩:=h1;obtain⟨t2,vY,wB⟩:=h2;refine⟨_,L7 pt vY,λF0 B F H Y ρ' Z d E rs e z=>?_⟩;obtain⟨o1,e1,L⟩:=c9 e;refine qt F0 B F H Y Z o1 _ rs e1 ?_;cases o1 with
 |nx ρ1=>exactλσ' F' H' Lk=>wB F0 B F' H' ρ1 ρ' σ' d E Lk L z
 |rt d=>cases L
 |bk ρ'=>cases L
 |ct ρ'=>cases L
theorem SL.app {N1:List Mo}{ρ2:Env}{σ2:St}{E7:List cN}(h2:SL K J F B H N1 ρ2 σ2 E7)(h0:SL K J F B H S Y Z fp):SL K J F B H (S++N1) (Y ++ ρ2) (Z ++ σ2) (fp++E7):=by
 induction h0 with
 |nil=>exact h2
 |@no m0 o0 S Y Z fp t ih=>exact .no ih
 |@al n0 d0 v0 S Y Z fp h t ih=>exact .al h ih
 |@px d0 v0 S Y Z fp h t ih=>exact .px h ih
 |@so d0 x0 S Y Z f0 F8 h t ih=>rw[et];exact .so h ih
 |@ow n0 d0 v0 S Y Z f0 F8 h t ih=>rw[et];exact .ow h ih
theorem SL.none {K:cL}{J:Nat->cN}{F B H:Hp}:∀(S:List Mo),SL K J F B H S (cY S.length G) (cY S.length G) []
 |[]=>.nil
 |m::S=>.no<|SL.none S
theorem SL.start0 {K:cL}{J:Nat->cN}{F B H:Hp}:∀{O:List D} {us:List V},Pr (Dt K J F) O us->SL K J F B H (cY O.length<|Mo.ow 0) (O.map U) (us.map U) []
 |_,_,.nil=>.nil
 |_,_,.cons h t=>SL.ow (f:=[]) (Ow.zero h)<|SL.start0 t
variable {gm:EM}
def XM (X:Cx)(J:Nat->cN)(S:List Mo)(e:Expr)(g:EM):Prop:=∃t,PE X e t/\∀(F0 B F H:Hp) (Y ρ':Env) (Z:St) (d:D) (Q:VK),RS X.K J F0 B S F H Y Z->g Y=U (d,ρ')->(∀v F' H',RS X.K J F0 B S F' H' ρ' Z->Dt X.K J F' d v->Q v H')->t Z H Q
theorem Z1 {v:V}(h:Z[i]?=U (U v)):Z.set i (U v) = Z:=by
 apply nN;intro k;rw[AV];by_cases e:i=k
 ·subst e;rw[if_pos rfl];by_cases hl:i < Z.length
  ·rw[if_pos hl,h]
  ·rw[if_neg hl,pz<|by lia]
 ·rw[if_neg e]
theorem ww:∀(Y:Env) (O:List D),Å Y=U O->O.length=0:=λY O e=>by cases e;rfl
theorem xk (h:∀(Y:Env) (O:List D),fs Y=U O->O.length=n):∀(Y:Env) (O:List D),C f fs Y=U O->O.length=n+1:=λY O e=>by obtain⟨x,xs,h1,h2,h3⟩:=fu e;cases h3;rw[cX,h Y xs h2]
def ê (i:Nat)(g:EM):SF:=λY=>(g Y).bind λr=>U<|.nx<|r.2.set i<|U r.1
theorem zuv (hm:S[i]?=U (.ow 0))(hN:X.N.Nodup)(hi:X.N[i]?=U x)(hx:ë X.env.scope x)(he:XM X J S e gm)(hs:FR X e x pos' pos:=by rfl)
  (hf:uQ X x:=by walk_at "v2"):XS X J S rk (.Assign [.Name x pos'] e pos) (ê i gm):=by
 obtain⟨t,pt,qt⟩:=he;refine⟨_,Jf hN hi hx pt hs hf,λF0 B F H Y Z o E rs e w=>?_⟩;obtain⟨⟨d,ρ'⟩,h1,h2⟩:=c9 e;cases h2;exact qt F0 B F H Y ρ' Z d _ rs h1 λv F' H' r l=>w _ F' H' (r.set hm (.refl r.fh) (Ow.zero l) dZ λa z=>(by cases z))
def HI (X:Cx)(J:Nat->cN)(S:List Mo)(k i:Nat)(es:List Expr)(f:Env->Option (List D)):Prop:=∃t,PA X es t/\(∀Y O,f Y=U O->O.length=es.length)/\∀(F0 B F H:Hp) (Y:Env) (Z:St) (O:List D) (Q:List V->Hp->Prop) (d:D) (v:V) (f1:List cN),RS X.K J F0 B S F H Y Z->Y[i]?=U (U d)->Z[i]?=U (U v)->Ow X.K J F H k d v f1->f1.Nodup->f Y=U O ->
 (∀vs F' H' fp,kR F H F' H'->iH (Ow X.K J F' H' k) O vs fp->fp.Nodup->(∀a∈fp,H a=G\/a∈f1)->Q vs H')->t Z H Q
theorem zuw (hN:X.N[i]?=U x:=by rfl)(hv:rZ X.env.scope x:=by walk_at "v1")(hd:kW x:=by decide)(kT:sU x:=by decide) :
  HI X J S k i [.Name x p1] (C (M i) Å):=by
 refine⟨_,ye (xm hN hv hd kT) xx,λY O e=>(by obtain⟨y,ys,h1,h2,h3⟩:=fu e;cases h3;cases h2;rfl),λF0 B F H Y Z O Q d v f1 rs hρ hσ ow nd e z=>?_⟩;obtain⟨y,ys,h1,h2,h3⟩:=fu e;cases h3;cases h2;have ey:y=d:=by have:=zp h1;rw[hρ]at this;cases this;rfl
 subst ey;refine⟨_,hσ,z [v] F H f1 (.refl rs.fh) ?_ nd λa h=>.inr h⟩;have:=iH.cons (R:=Ow X.K J F H k) ow .nil;rw[dU]at this;exact this
theorem Qm (h1:XO X J S k a f)(h2:HI X J S k i es fs)(hs:SE X a es:=by rfl):HI X J S k i (a::es) (C f fs):=by
 obtain⟨ta,pa,qa⟩:=h1;obtain⟨tb,pb,lb,qb⟩:=h2;refine⟨_,ye pa pb hs,λY O e=>(by obtain⟨x,xs,h1,h2,h3⟩:=fu e;cases h3;rw[cX,cX,lb _ _ h2]),λF0 B F H Y Z O Q d v f1 rs hρ hσ ow nd e z=>?_⟩;obtain⟨y,ys,h1,h2,h3⟩:=fu e;cases h3;refine qa F0 B F H Y Z y _ rs h1 λu F1 H1 fp x1 l UF hf=>?_;refine qb F0 B F1 H1 Y Z ys _ d v f1 (rs.ext x1) hρ hσ (ow.ext x1) nd h2 λus F2 H2 E7 x2 l2 Ew B0=>?_;refine z (u::us) F2 H2 (fp++E7) (x1.trans x2) (.cons (l.ext x2) l2) ?_ λa ha=>?_
 ·refine c8.mpr ⟨UF,Ew,λa ha b hb e=>?_⟩;subst e;obtain⟨_,o,ho,_⟩:=l.cells a ha;rcases B0 a hb with h|h
  ·rw[ho]at h;cases h
  ·obtain⟨_,o',B3,_⟩:=ow.cells a h;rw[hf a ha]at B3;cases B3
 ·rcases dc.mp ha with h|h
  ·exact .inl<|hf a h
  ·rcases B0 a h with h|h
   ·exact .inl<|x1.hh.free h
   ·exact .inr h
theorem Z2 {x1}(hm:S[i]?=U (.ow k))(h:HI X J S k i es fs)(hl:es.length<=1000:=by decide):XS X J S (k+1) (.Return (U<|.Tuple es x1 p2) pos) (É<|λY=>(M i Y).bind λ_=>(fs Y).bind λO=>U<|.tup O):=by
 obtain⟨t,pt,lt,qt⟩:=h;refine⟨_,u9<|MR pt,λF0 B F H Y Z o E rs e w=>?_⟩;obtain⟨r,h1,h2⟩:=c9 e;cases h2;obtain⟨d,h3,h4⟩:=c9 h1;obtain⟨O,h5,h6⟩:=c9 h4;cases h6;obtain⟨f1,fr,n1,b1,n3,i4,cf,put⟩:=rs.put (F':=F) (H':=H) hm;obtain⟨v,hσ,ow⟩:=i4 d<|zp h3;refine qt F0 B F H Y Z O _ d v f1 rs (zp h3) hσ ow n1 h5 λvs F1 H1 fp x1 l nd hf=>⟨?_,λp hp=>?_⟩
 ·rw[←l.length,lt _ _ h5];exact ò hl
 ·have x2:=kR.newS x1.fh hp<|.tup vs;have r2:=rs.ext<|x1.trans x2;refine w _ _ _ fp r2.f0 r2.bh r2.fh r2.nf (.inr<|.tup zu<|l.mono λ_ _ _ _ o=>o.ext x2) nd λa ha=>?_;rcases hf a ha with h|h
  ·exact rs.bh.free h
  ·exact b1 a h
def Ć (K:cL):V->List V->Hp->VK->Prop:=λx vs H Q=>∃sp p ys,x=.str sp/\vs=[.ref p]/\iE K H p (ys.map V.str)/\(ys.map (·.length)).sum+ys.length*sp.length<=16777216/\Q (.str<|PySem.Str.join sp ys) H
theorem nV:∀{ys:List Str} {us:List cJ},ez (ys.map V.str) us->StrsAre us ys
 |[],_,.nil=>.nil
 |y::ys,_,.cons r t=>by obtain⟨tk,rfl⟩:=r;exact .cons y tk<|nV t
theorem zux:Dh X "str.join" (Ć X.K):=by intro cM s Z H x vs v us Q I rx rv h;obtain⟨sp,p,ys,rfl,rfl,hq,hl,q⟩:=h;obtain⟨tk,rfl⟩:=rx;obtain⟨u,rfl,ru⟩:=rv.one;cases ru;obtain⟨eE,r,pl,hz⟩:=I.list hq;refine PyProof.Rows.join_list pl.isList (by simpa using nV r) hl λt' k=>⟨.str<|PySem.Str.join sp ys,H,I.tok _,⟨t',?_⟩,q⟩;have:PySem.Txt.join sp ys=PySem.Str.join sp ys:=PySem.StrLaws.glued_eq_join sp ys;rw[this]
def tq:List D->Option (List Str)
 |[]=>U []
 |.str i::O=>(tq O).bind λns=>U (i::ns)
 |_=>G
theorem OX:∀{O:List D} {ns:List Str},tq O=U ns->O=ns.map .str
 |[],_,e=>by cases e;rfl
 |d::O,ns,e=>by
  cases d with
  |str i=>obtain⟨S,h1,h2⟩:=c9<|show(tq O).bind _=_ from e;cases h2;rw[OX h1];rfl
  |_=>cases e
def oB:D->D->Option D
 |.str sp,.lst O=>(tq O).bind λys=>if(ys.map (·.length)).sum+ys.length*sp.length<=16777216 then U (.str<|PySem.Str.join sp ys)else G
 |_,_=>G
theorem RE {F H:Hp}{K:cL}:∀{ys:List Str} {vs:List V},Pr (Al K J F H n) (ys.map D.str) vs->vs=ys.map V.str
 |[],_,.nil=>rfl
 |y::ys,_,.cons h t=>by have q:=Al.scal (F':=F) h rfl;cases q;rw[RE t];rfl
theorem j5 (ho:XE X J S n o f)(he:XE X J S m e g)(lE:SE X e []:=by rfl)
  (kh:yO X o "join":=by rfl)
  (nF:Bm X eY [e]:=by rfl)
  (ki:(fL.endLine==eY.line)=Â:=by rfl) (iw:pW X eY []:=by rfl) :
  XE X J S k (.Call (.Attribute o "join" fL) [e] [] eY) (L oB f g):=by
 obtain⟨ta,pa,qa⟩:=ho;obtain⟨tb,pb,qb⟩:=he;refine⟨_,Ca PySem.F.plainAttrs_str PySem.F.slot_str_join PySem.F.type_str_join zux pa (ye pb xx lE) kh nF ki lE iw,λF0 B F H Y Z d Q rs e w=>?_⟩;obtain⟨d1,d2,h1,h2,h3⟩:=fu e;refine qa F0 B F H Y Z d1 _ rs h1 λv1 F1 H1 x1 l1=>?_;cases d1 with
 |str sp=>
  cases d2 with
  |lst O=>
   obtain⟨ys,h4,h5⟩:=c9<|show(tq O).bind _=_ from h3;by_cases hz:(ys.map (·.length)).sum+ys.length*sp.length<=16777216
   ·rw[if_pos hz]at h5;cases h5;have q1:=Al.scal (F':=F1) l1 rfl;cases q1;refine⟨rfl,qb F0 B F1 H1 Y Z _ _ (rs.ext x1) h2 λv2 F2 H2 x2 l2=>?_⟩;obtain⟨p,vs,rfl,hp,Ig⟩:=l2.lst x2.fh;rw[OX h4]at Ig;have hv:=RE Ig;subst hv;exact⟨sp,p,ys,rfl,rfl,hp,hz,w _ F2 H2 (x1.trans x2)<|Al.of<|.str _⟩
   ·rw[if_neg hz]at h5;cases h5
  |_=>cases h3
 |_=>cases h3
variable {kq:Nat}
section
variable {fd:cT}
theorem pw (h:XO X J S k e f):XO X J S 0 e f:=XE.ow<|XO.sh (n:=0) h
theorem nM {own:Nat}(hN:X.N.Nodup)(ho:i<own:=by decide)(hm:S[i]?=U (.ow 0):=by rfl)(hi:X.N[i]?=U x:=by rfl)(hx:ë X.env.scope x:=by walk_at "v3")
  (hf:uQ X x:=by walk_at "v2"):A1 X J S own 0 (.Name x pos) (gV i):=Zm ho hm hN hi hx hf
theorem lR (hN:X.N.Nodup)(he:XO X J S k e f)(hm:S[i]?=U (.ow k):=by rfl)(hi:X.N[i]?=U x:=by rfl)(hx:ë X.env.scope x:=by walk_at "v3")
  (hs:FR X e x pos' pos:=by rfl)
  (hf:uQ X x:=by walk_at "v2"):XS X J S rk (.Assign [.Name x pos'] e pos) (È i f):=Ź hm hN hi hx he hs hf
theorem p9 (hN:X.N.Nodup)(hm:S[i]?=U (.ow 0):=by rfl)(hi:X.N[i]?=U x:=by rfl)(hx:ë X.env.scope x:=by walk_at "v3")
  (hf:uQ X x:=by walk_at "v2"):XG X J S 0 (.Name x pos) (gV i):=zt5 hm hN hi hx hf
theorem jG (d:iX X.K X.mg x st ps fa fd)(Fn:dR X.prog X.w X.K X.mg X.base fQ kk fa fd ps<|iP X.K J ns rk mf)(hr:gu kq X.A)(ha:XA X J S (e::es) ns fs)(uT:kk<=kq:=by decide)(hg:Gl X x:=by rfl)
  (oV:kW x:=by decide) (he:SE X e es:=by rfl) (lW:pW X pos es:=by rfl) :
  XO X J S rk (.Call (.Name x pp) (e::es) [] pos) (λY=>(fs Y).bind λO=>mf<|O++[]) :=
 jy (ns:=ns) (nd:=[]) (pH:=[]) (by rw[dU];exact Fn) (hr.mono uT) hg d.mgx d.fn.kp d.bd .nil (λ_ _=>.nil) ha oV he lW
theorem Vl {own:Nat}(hi:Cm X J S n tg iter fi)
  (hg:∀cl KK fp s₀ H₀,A1 (nZ X scope cl N KK fp s₀ H₀) J (om++ke S cap) own n tg gg) (ht:∀cl KK fp s₀ H₀,Cp (nZ X scope cl N KK fp s₀ H₀) J (om++ke S cap) ifs p) (he:∀cl KK fp s₀ H₀,XO (nZ X scope cl N KK fp s₀ H₀) J (om++ke S cap) k qL f)
  (B:pB X scope N own cap:=by exact M0 (by rfl)) (hc:X.calm=Â:=by rfl) (ho:om.length=own:=by rfl) (rK:∀i∈cap,i<S.length:=by decide)
  (hs:A0 X iter:=by intro _;rfl):XO X J S (k+1) (.ListComp qL [⟨tg,iter,ifs,0⟩] scope pos) (fw fi own cap gg p f):=QM B hc ho rK hi hg ht he hs
theorem ed {i:Int}{j}:XE X J S 0 (.Constant (.int i) j pos) (eC<|.int i):=Ż
theorem rq {j}:XE X J S 0 (.Constant .none j pos) (eC .non):=ź
theorem iN (ha:XE X J S 0 a f)(hb:XE X J S 0 b g):XO X J S 1 (.BinOp a .Add b pos) (L dL f g):=R6 MD (QN (by decide)<|by decide) ha hb
theorem ig (ha:XE X J S 0 a f)(hb:XE X J S 0 b g)(hp:n8 b:=by exactλ_ _=>rfl):XE X J S 0 (.Subscript a b pos) (L eG f g):=FB (n:=0) qp EU ha hb hp
theorem o6 (hm:X.mg "len"=G)(ha:XA X J S [e] [n] fs)(hg:Gl X "len":=by rfl)(he:SE X e []:=by rfl)(lW:pW X pos []:=by rfl):XE X J S 0 (.Call (.Name "len" pp) [e] [] pos) (eN fV fs):=xo (k:=0) Y1 zub hg hm Rh ha (by decide) (by decide) he lW
theorem lA0 {P:List cJ->Prop}(h:P [])(us:List cJ)(e:us.length=0):P us:=by
 cases us with
 |nil=>exact h
 |cons a t=>cases e
theorem Ġ {P:List cJ->Prop}(h:∀a1,P [a1])(us:List cJ)(e:us.length=1):P us:=by
 cases us with
 |nil=>cases e
 |cons a t=>exact lA0 (P:=λt=>P (a::t)) (h a) t<|Nat.succ.inj e
theorem Ĉ {P:List cJ->Prop}(h:∀a1 a2,P [a1,a2])(us:List cJ)(e:us.length=2):P us:=by
 cases us with
 |nil=>cases e
 |cons a t=>exact Ġ (P:=λt=>P (a::t)) (h a) t<|Nat.succ.inj e
theorem ą {P:List cJ->Prop}(h:∀a1 a2 a3,P [a1,a2,a3])(us:List cJ)(e:us.length=3):P us:=by
 cases us with
 |nil=>cases e
 |cons a t=>exact Ĉ (P:=λt=>P (a::t)) (h a) t<|Nat.succ.inj e
theorem ā {P:List cJ->Prop}(h:∀a1 a2 a3 a4,P [a1,a2,a3,a4])(us:List cJ)(e:us.length=4):P us:=by
 cases us with
 |nil=>cases e
 |cons a t=>exact ą (P:=λt=>P (a::t)) (h a) t<|Nat.succ.inj e
theorem ć {P:List cJ->Prop}(h:∀a1 a2 a3 a4 a5,P [a1,a2,a3,a4,a5])(us:List cJ)(e:us.length=5):P us:=by
 cases us with
 |nil=>cases e
 |cons a t=>exact ā (P:=λt=>P (a::t)) (h a) t<|Nat.succ.inj e
theorem ĳ {P:List cJ->Prop}(h:∀a1 a2 a3 a4 a5 a6,P [a1,a2,a3,a4,a5,a6])(us:List cJ)(e:us.length=6):P us:=by
 cases us with
 |nil=>cases e
 |cons a t=>exact ć (P:=λt=>P (a::t)) (h a) t<|Nat.succ.inj e
end
inductive SA where
 |ok (d:D)|xc (d:D)
inductive JH where
 |ok (o:ï)|xc (Y:Env) (d:D)
abbrev SFx:=Env->Option JH
theorem z01 {B:cN}{b:Bool}(h1:Az K B=Â)(h2:AZ K (.ref B)=U (.type "type"))(h3:Bk K (.ref KK) (.ref B)=U b)(h4:Bk K (.ref B) (.type "BaseException")=U Â):AY K (.ref KK) (.ref B)=U b:=by unfold AY PySem.W.kitCls;rw[h4,if_pos<|by decide];dsimp only;rw[if_pos,h3];unfold Az at h1;rw[h1,h2];rfl
def EG (T:Str->Int->Str):V->List V->Hp->VK->Prop:=λx vs H Q=>∃y i,x=.str y/\vs=[.int i]/\PadOk i=Â/\Q (.str<|T y i) H
def zL (T:Str->Int->Str):D->D->Option D
 |.str y,.int i=>if PadOk i=Â then U (.str<|T y i)else G
 |_,_=>G
theorem Z3:Dh X "str.ljust" (EG Txt.ljust):=by intro cM s Z H x vs v us Q I rx rv h;obtain⟨y,i,rfl,rfl,hp,q⟩:=h;obtain⟨tk,rfl⟩:=rx;obtain⟨u,rfl,ru⟩:=rv.one;obtain⟨tu,rfl⟩:=ru;exact PySem.SC.ljust hp λt' k=>⟨.str<|Txt.ljust y i,H,I.tok _,⟨t',rfl⟩,q⟩
theorem Z4 (ho:XE X J S n o f)(he:XE X J S m e g)(lE:SE X e []:=by rfl)
  (kh:yO X o "ljust":=by rfl)
  (nF:Bm X eY [e]:=by rfl)
  (ki:(fL.endLine==eY.line)=Â:=by rfl) (iw:pW X eY []:=by rfl) :
  XE X J S k (.Call (.Attribute o "ljust" fL) [e] [] eY) (L (zL Txt.ljust) f g):=by
 obtain⟨ta,pa,qa⟩:=ho;obtain⟨tb,pb,qb⟩:=he;refine⟨_,Ca PySem.F.plainAttrs_str PySem.F.slot_str_ljust PySem.F.type_str_ljust Z3 pa (ye pb xx lE) kh nF ki lE iw,λF0 B F H Y Z d Q rs e w=>?_⟩;obtain⟨d1,d2,h1,h2,h3⟩:=fu e;refine qa F0 B F H Y Z d1 _ rs h1 λv1 F1 H1 x1 l1=>?_;cases d1 with
 |str y=>
  cases d2 with
  |int i=>
   have h3:(if PadOk i=Â then U (D.str<|Txt.ljust y i)else G)=U d:=h3;by_cases hp:PadOk i=Â
   ·rw[if_pos hp]at h3;cases h3;have q1:=Al.scal (F':=F1) l1 rfl;cases q1;refine⟨rfl,qb F0 B F1 H1 Y Z _ _ (rs.ext x1) h2 λv2 F2 H2 x2 l2=>?_⟩;have q2:=Al.scal (F':=F2) l2 rfl;cases q2;exact⟨y,i,rfl,rfl,hp,w _ F2 H2 (x1.trans x2)<|Al.of<|.str _⟩
   ·rw[if_neg hp]at h3;cases h3
  |_=>cases h3
 |_=>cases h3
theorem Z5:Dh X "str.rjust" (EG Txt.rjust):=by intro cM s Z H x vs v us Q I rx rv h;obtain⟨y,i,rfl,rfl,hp,q⟩:=h;obtain⟨tk,rfl⟩:=rx;obtain⟨u,rfl,ru⟩:=rv.one;obtain⟨tu,rfl⟩:=ru;exact PySem.SC.rjust hp λt' k=>⟨.str<|Txt.rjust y i,H,I.tok _,⟨t',rfl⟩,q⟩
theorem Z6 (ho:XE X J S n o f)(he:XE X J S m e g)(lE:SE X e []:=by rfl)
  (kh:yO X o "rjust":=by rfl)
  (nF:Bm X eY [e]:=by rfl)
  (ki:(fL.endLine==eY.line)=Â:=by rfl) (iw:pW X eY []:=by rfl) :
  XE X J S k (.Call (.Attribute o "rjust" fL) [e] [] eY) (L (zL Txt.rjust) f g):=by
 obtain⟨ta,pa,qa⟩:=ho;obtain⟨tb,pb,qb⟩:=he;refine⟨_,Ca PySem.F.plainAttrs_str PySem.F.slot_str_rjust PySem.F.type_str_rjust Z5 pa (ye pb xx lE) kh nF ki lE iw,λF0 B F H Y Z d Q rs e w=>?_⟩;obtain⟨d1,d2,h1,h2,h3⟩:=fu e;refine qa F0 B F H Y Z d1 _ rs h1 λv1 F1 H1 x1 l1=>?_;cases d1 with
 |str y=>
  cases d2 with
  |int i=>
   have h3:(if PadOk i=Â then U (D.str<|Txt.rjust y i)else G)=U d:=h3;by_cases hp:PadOk i=Â
   ·rw[if_pos hp]at h3;cases h3;have q1:=Al.scal (F':=F1) l1 rfl;cases q1;refine⟨rfl,qb F0 B F1 H1 Y Z _ _ (rs.ext x1) h2 λv2 F2 H2 x2 l2=>?_⟩;have q2:=Al.scal (F':=F2) l2 rfl;cases q2;exact⟨y,i,rfl,rfl,hp,w _ F2 H2 (x1.trans x2)<|Al.of<|.str _⟩
   ·rw[if_neg hp]at h3;cases h3
  |_=>cases h3
 |_=>cases h3
theorem Z7:Dh X "str.zfill" (EG Txt.zfill):=by intro cM s Z H x vs v us Q I rx rv h;obtain⟨y,i,rfl,rfl,hp,q⟩:=h;obtain⟨tk,rfl⟩:=rx;obtain⟨u,rfl,ru⟩:=rv.one;obtain⟨tu,rfl⟩:=ru;exact PySem.SC.zfill hp λt' k=>⟨.str<|Txt.zfill y i,H,I.tok _,⟨t',rfl⟩,q⟩
theorem Z8 (ho:XE X J S n o f)(he:XE X J S m e g)(lE:SE X e []:=by rfl)
  (kh:yO X o "zfill":=by rfl)
  (nF:Bm X eY [e]:=by rfl)
  (ki:(fL.endLine==eY.line)=Â:=by rfl) (iw:pW X eY []:=by rfl) :
  XE X J S k (.Call (.Attribute o "zfill" fL) [e] [] eY) (L (zL Txt.zfill) f g):=by
 obtain⟨ta,pa,qa⟩:=ho;obtain⟨tb,pb,qb⟩:=he;refine⟨_,Ca PySem.F.plainAttrs_str PySem.F.slot_str_zfill PySem.F.type_str_zfill Z7 pa (ye pb xx lE) kh nF ki lE iw,λF0 B F H Y Z d Q rs e w=>?_⟩;obtain⟨d1,d2,h1,h2,h3⟩:=fu e;refine qa F0 B F H Y Z d1 _ rs h1 λv1 F1 H1 x1 l1=>?_;cases d1 with
 |str y=>
  cases d2 with
  |int i=>
   have h3:(if PadOk i=Â then U (D.str<|Txt.zfill y i)else G)=U d:=h3;by_cases hp:PadOk i=Â
   ·rw[if_pos hp]at h3;cases h3;have q1:=Al.scal (F':=F1) l1 rfl;cases q1;refine⟨rfl,qb F0 B F1 H1 Y Z _ _ (rs.ext x1) h2 λv2 F2 H2 x2 l2=>?_⟩;have q2:=Al.scal (F':=F2) l2 rfl;cases q2;exact⟨y,i,rfl,rfl,hp,w _ F2 H2 (x1.trans x2)<|Al.of<|.str _⟩
   ·rw[if_neg hp]at h3;cases h3
  |_=>cases h3
 |_=>cases h3
noncomputable def qF (c n:Nat):Str:=⟨hJ n c⟩
def UE:D->D->Option D
 |.str y,.int i=>match y.cps.toList with
  |[c]=>if -1000000<=i/\i<=1000000 then U (.str<|qF c i.toNat)else G
  |_=>G
 |_,_=>G
def Li:V->Option Int->Option Int->Hp->VK->Prop:=λx lo hi H Q=>∃y,x=.str y/\y.length<=sizeLine/\Q (.str<|Txt.slice y lo hi) H
theorem ŭ:JI X Li:=by
 intro cM s Z H x v vl vu lo hi sl Q I rx hs pl pu h;obtain⟨y,rfl,hz,q⟩:=h;obtain⟨t,rfl⟩:=rx;have key:∀l u:Option (Int×Tok),vl=PySem.partValue l->vu=PySem.partValue u->lo=l.map (·.1)->hi=u.map (·.1)->dg (dz X.prog X.w) X.A (su (.str y t)<|.ref sl) (EP X cM Z Q) X.xe s:=by rintro l u rfl rfl rfl rfl;refine wpAny_getItem_str_slice (l:=l) (u:=u) (st:=none) hs rfl<|post_val_or_str ⟨eQ (Txt.slice_le y (l.map (·.1))<|u.map (·.1)) hz,λt' k=>⟨.str<|Txt.slice y (l.map (·.1))<|u.map (·.1),H,I.tok _,⟨t',rfl⟩,q⟩⟩
 refine⟨"str",_,F.slot_str_getitem.lookup,typeIs_str _ _ _,?_⟩;cases pl with
 |none=>cases pu with
  |none=>exact key G G rfl rfl rfl rfl
  |int j tj=>exact key G (U (j,tj)) rfl rfl rfl rfl
 |int i ti=>cases pu with
  |none=>exact key (U (i,ti)) G rfl rfl rfl rfl
  |int j tj=>exact key (U (i,ti)) (U (j,tj)) rfl rfl rfl rfl
def uC (d:D)(lo hi:Option Int):Option D:=match d with
 |.str y=>if y.length<=16777216 then U (.str<|Txt.slice y lo hi)else G
 |_=>G
def K0:D->D->Option D
 |.tup O,.int i=>L2.atI O i
 |_,_=>G
variable {p3:mR}
theorem Al.tupB {v:V}(h:Al K J F B (n+1) (.tup O) v):∃a vs,v=.ref a/\F a=U (.tup vs)/\Pr (Al K J F B n) O vs:=by
 rcases h with h|h
 ·cases h with
  |tup h1 h2=>exact⟨_,_,rfl,h1,h2.pr.mono λ_ _ q=>Al.of q⟩
 ·cases h with
  |tup h1 h2=>exact⟨_,_,rfl,h1,h2⟩
theorem Z9 (hm:S[i]?=U (.al n))(Ai:S[j]?=U (.al<|n+1))(he:XE X J S m e g)(hN:X.N.Nodup)(lW:n8 e)(hi:X.N[i]?=U x:=by rfl)(hx:ë X.env.scope x:=by walk_at "v3")
  (TD:X.N[j]?=U y:=by rfl) (Uo:rZ X.env.scope y:=by walk_at "v1") (hd2:kW y:=by decide) (J4:sU y:=by decide)
  (hs:gk (.Subscript (.Name y p2) e p3) (U<|.Name x p1) pos.line X.env=pure Ã:=by rfl)
  (hf:uQ X x:=by walk_at "v2"):XS X J S rk (.Assign [.Name x p1] (.Subscript (.Name y p2) e p3) pos) (È i<|L K0 (M j) g):=by
 obtain⟨tb,pb,qb⟩:=he;refine⟨_,Jf hN hi hx (Jx qp (xm TD Uo hd2 J4) pb lW) hs hf,λF0 B F H Y Z o E rs e w=>?_⟩;obtain⟨d,h1,h2⟩:=c9 e;cases h2;obtain⟨d1,d2,g1,g2,g3⟩:=fu h1;obtain⟨fp,sl,nd,hb⟩:=rs.sl;obtain⟨v1,hσ,SH⟩:=sl.getA Ai<|zp g1;refine⟨v1,hσ,qb F0 B F H Y Z d2 _ rs g2 λv2 F2 H2 x2 l2=>?_⟩;cases d1 with
 |tup O=>
  cases d2 with
  |int z=>obtain⟨a,vs,rfl,ha,hp⟩:=SH.tupB;obtain⟨v,k1,k2⟩:=hp.atI g3;have B7:=rs.ext x2;obtain⟨E7,BP,Ew,NG⟩:=B7.sl;exact .inr<|.inl ⟨a,vs,z,v,rfl,l2.int,pX.of<|x2.fh _ _<|x2.ff _ _ ha,k1,w _ F2 H2 ⟨B7.f0,B7.bh,B7.fh,B7.nf,E7,BP.setA (Al.mono x2.ff (ej.refl _) k2) hm,Ew,NG⟩⟩
  |_=>cases g3
 |_=>cases g3
theorem pq.prn {K:cL}{F V':Hp}:∀{ns:List Nat} {O:List D} {vs:List V},pq K J F V' ns O vs->ns.all (λj=>decide<|j<=n)=Â->Pr (Al K J F V' n) O vs
 |_,_,_,.nil,_=>.nil
 |_,_,_,.cons h t,e=>by rw[gJ,dE]at e;exact .cons (h.up<|of_decide_eq_true e.1)<|pq.prn t e.2
theorem zuy {x1}(h:XA X J S es ns fs)(wO:ns.all (λj=>decide<|j<=n)=Â:=by decide)(hl:es.length<=1000:=by decide):XE X J S (n+1) (.Tuple es x1 pos) (λY=>(fs Y).bind λO=>U<|.tup O):=by
 obtain⟨t,pt,lt,qt⟩:=h;refine⟨_,MR pt,λF0 B F H Y Z r Q rs e w=>?_⟩;obtain⟨O,h1,h2⟩:=c9 e;cases h2;refine qt F0 B F H Y Z O _ rs h1 λvs F1 H1 x1 l=>⟨?_,λp hp=>?_⟩
 ·rw[←l.length',lt _ _ h1];exact ò hl
 ·have x2:=kR.newS x1.fh hp<|.tup vs;exact w _ _ _ (x1.trans x2)<|.inr<|.tup zu<|(l.prn wO).mono λ_ _ q=>Al.mono x2.ff x2.hh q
def nL:D->D->Option D
 |.str y,.str z=>if(z.length==0)=Ã/\y.length<=16777216/\(Txt.split y z).length<=16777216 then U (.lst<|(Txt.split y z).map .str)else G
 |_,_=>G
theorem MG {K:cL}{F:Hp}:∀l:List Str,Pr (Dt K J F) (l.map D.str) (l.map V.str)
 |[]=>.nil
 |x::l=>.cons (.str x)<|MG l
theorem PZ (ho:XE X J S n o f)(he:XE X J S m e g)(lE:SE X e []:=by rfl)
  (kh:yO X o "split":=by rfl)
  (nF:Bm X eY [e]:=by rfl)
  (ki:(fL.endLine==eY.line)=Â:=by rfl) (iw:pW X eY []:=by rfl) :
  XO X J S 1 (.Call (.Attribute o "split" fL) [e] [] eY) (L nL f g):=by
 obtain⟨ta,pa,qa⟩:=ho;obtain⟨tb,pb,qb⟩:=he;refine⟨_,Ca PySem.F.plainAttrs_str PySem.F.slot_str_split PySem.F.type_str_split Qc pa (ye pb xx lE) kh nF ki lE iw,λF0 B F H Y Z d Q rs e w=>?_⟩;obtain⟨d1,d2,h1,h2,h3⟩:=fu e;refine qa F0 B F H Y Z d1 _ rs h1 λv1 F1 H1 x1 l1=>?_;cases d1 with
 |str y=>
  cases d2 with
  |str z=>
   have h3:(if(z.length==0)=Ã/\y.length<=16777216/\(Txt.split y z).length<=16777216 then U (D.lst<|(Txt.split y z).map .str)else G)=U d:=h3;by_cases hp:(z.length==0)=Ã/\y.length<=16777216/\(Txt.split y z).length<=16777216
   ·rw[if_pos hp]at h3;cases h3;have q1:=Al.scal (F':=F1) l1 rfl;cases q1;refine⟨rfl,qb F0 B F1 H1 Y Z _ _ (rs.ext x1) h2 λv2 F2 H2 x2 l2=>?_⟩;have q2:=Al.scal (F':=F2) l2 rfl;cases q2;refine⟨y,z,rfl,rfl,hp.1,by rw[dW];exact hp.2.1,by rw[dW];exact hp.2.2,v9 x2.fh (MG _) λv F' H' fp x o nd hf=>w v F' H' fp ((x1.trans x2).trans x) o nd λz hz=>(x1.trans x2).hh.free<|hf z hz⟩
   ·rw[if_neg hp]at h3;cases h3
  |_=>cases h3
 |_=>cases h3
def jP:List D->Option D
 |[.str y]=>if y.length<=640 then(PySem.intText? y).bind λi=>U (.int i)else G
 |_=>G
theorem yy:BX K J [n] k (λxs H Q=>∃y i,xs=[.str y]/\PySem.intText? y=U i/\y.length<=640/\Q (.int i) H) jP:=by
 intro F H vs O d Q s l e w;cases l with
 |cons h t=>
  cases t;rename_i d0 v0;cases d0 with
  |str y=>
   have e:(if y.length<=640 then(PySem.intText? y).bind λi=>U (D.int i)else G)=U d:=e;by_cases hl:y.length<=640
   ·rw[if_pos hl]at e;obtain⟨i,h1,h2⟩:=c9 e;cases h2;exact⟨y,i,by rw[h.str],h1,hl,w _ F H (.refl s)<|Al.of<|.int i⟩
   ·rw[if_neg hl]at e;cases e
  |_=>cases e
def FV:D->D->Option D
 |.lst xs,.lst ys=>if xs.length+ys.length<=16777216 then U (.lst<|xs++ys)else G
 |_,_=>G
theorem zql (hm:S[i]?=U (.ow<|k+1))(hN:X.N.Nodup)(he:XO X J S (k+1) e f)(hi:X.N[i]?=U x:=by rfl)(hx:ë X.env.scope x:=by walk_at "v3")
  (hv:rZ X.env.scope x:=by walk_at "v1") (hd:kW x:=by decide) (kT:sU x:=by decide)
  (hs:gk (.BinOp (.Name x p1) .Add e p2) (U<|.Name x pos') pos.line X.env=pure Ã:=by rfl)
  (hf:uQ X x:=by walk_at "v2"):XS X J S rk (.Assign [.Name x pos'] (.BinOp (.Name x p1) .Add e p2) pos) (È i<|L FV (M i) f):=by
 obtain⟨t,pt,qt⟩:=he;refine⟨_,Jf hN hi hx (Jw MD (xm hi hv hd kT) pt) hs hf,λF0 B F H Y Z o E rs e w=>?_⟩;obtain⟨d,h1,h2⟩:=c9 e;cases h2;obtain⟨d1,d2,h3,h4,h5⟩:=fu h1;obtain⟨f1,fr,n1,b1,dj,i4,cf,put⟩:=rs.put (F':=F) (H':=H) hm;obtain⟨v,hσ,ow⟩:=i4 d1<|zp h3;refine⟨v,hσ,?_⟩;refine qt F0 B F H Y Z d2 _ rs h4 λy F' H' fp x1 o2 Ew B0=>?_;have r:=rs.ext x1;cases d1 with
 |lst xs=>
  cases d2 with
  |lst ys=>
   have h5:(if xs.length+ys.length<=16777216 then U (D.lst<|xs++ys)else G)=U d:=h5;by_cases hz:xs.length+ys.length<=16777216
   ·rw[if_pos hz]at h5;cases h5;obtain⟨ad,vs,Bq,rfl,rfl,hF,hH,ol⟩:=ow.lst_inv;obtain⟨bd,us,JS,rfl,rfl,Nx,Gd,EA⟩:=o2.lst_inv;have hA:H' ad=U (.lst vs):=x1.hh _ _ hH;refine .inr (.inr<|.inl ⟨ad,bd,vs,us,rfl,rfl,iE.of hA,iE.of Gd,by rw[←ol.length,←EA.length,dW];lia,λq hq=>?_⟩);have ne:∀a o,H' a=U o->a≠q:=λa o h e=>by rw[e,hq]at h;cases h
    have c1:∀a∈Bq,F' a=G/\∃o,H' a=U o:=λa ha=>by obtain⟨q1,o,q2,q3⟩:=iH.cellsOf ol a ha;exact⟨x1.nf a o q2 q3 q1,o,x1.hh _ _ q2⟩
    have c2:∀a∈JS,F' a=G/\∃o,H' a=U o:=λa ha=>by obtain⟨q1,o,q2,q3⟩:=iH.cellsOf EA a ha;exact⟨q1,o,q2⟩
    have fq:F' q=G:=x1.fh.free hq;refine w _ F' _<|put F' (upd H' q<|.lst<|vs++us) (.lst<|xs++ys) (.ref q) (q::(Bq++JS)) x1.ff (λa o h=>?_) (λa o h=>?_) r.nf (λa ha=>?_) (.inr<|.lst fq zu<|(ol.mono λ_ _ f' Cy o'=>?_).append<|EA.mono λ_ _ f' Cy o'=>?_) ?_ ?_ ?_
    ·have:=r.bh _ _ h;rw[zo<|ne a o this];exact this
    ·have:=x1.fh _ _ h;rw[zo<|ne a o this];exact this
    ·obtain⟨q1,o,q2,q3⟩:=cf a ha;have q4:=x1.hh _ _ q2;exact⟨by rw[zo<|ne a o q4,q4,q2],x1.nf a o q2 q3 q1⟩
    ·refine(o'.ext x1).frame (.refl _) λa ha=>?_;obtain⟨q1,o,q2⟩:=c1 a<|Cy a ha;exact⟨zo<|ne a o q2,q1⟩
    ·refine o'.frame (.refl _) λa ha=>?_;obtain⟨q1,o,q2⟩:=c2 a<|Cy a ha;exact⟨zo<|ne a o q2,q1⟩
    ·refine dO.mpr ⟨λh=>?_,c8.mpr ⟨(dO.mp n1).2,(dO.mp Ew).2,λa ha b hb e=>?_⟩⟩
     ·rcases dc.mp h with h|h
      ·obtain⟨_,o,q2⟩:=c1 q h;exact ne q o q2 rfl
      ·obtain⟨_,o,q2⟩:=c2 q h;exact ne q o q2 rfl
     ·subst e;obtain⟨_,o,ho,_⟩:=iH.cellsOf ol a ha;rw[B0 a<|cQ _ hb]at ho;cases ho
    ·intro a ha hr;obtain⟨_,o,ho,_⟩:=cf a hr;rcases cP.mp ha with rfl|ha
     ·exact ne a o (x1.hh _ _ ho) rfl
     ·rcases dc.mp ha with ha|ha
      ·exact dj a (cQ _ ha) hr
      ·rw[B0 a<|cQ _ ha]at ho;cases ho
    ·intro a ha;rcases cP.mp ha with rfl|ha
     ·exact r.bh.free hq
     ·rcases dc.mp ha with ha|ha
      ·exact b1 a<|cQ _ ha
      ·exact rs.bh.free<|B0 a<|cQ _ ha
   ·rw[if_neg hz]at h5;cases h5
  |_=>cases h5
 |_=>cases h5
theorem iH.get {R:D->V->List cN->Prop}{vs:List V}(h:iH R O vs fp):∀{i:Nat} {d:D} {v:V},O[i]?=U d->vs[i]?=U v->∃f,R d v f/\wW f fp:=by
 induction h with
 |nil=>intro i d v h;cases h
 |cons h t ih=>
  intro i d' v' e1 L;cases i with
  |zero=>cases e1;cases L;exact⟨_,h,List.sublist_append_left ..⟩
  |succ i=>obtain⟨f',h1,h2⟩:=ih e1 L;exact⟨f',h1,h2.trans<|nv ..⟩
def rR:D->Option D
 |.lst [.lst xs,.lst ys]=>if xs.length<ys.length then U (.lst [.lst xs,.lst ys])else G
 |_=>G
theorem Y7 {r:D}(h:rR d=U r):∃xs ys,d=.lst [.lst xs,.lst ys]/\r=d/\xs.length<ys.length:=by
 unfold rR at h;split at h
 ·split at h
  ·cases h;exact⟨_,_,rfl,rfl,by assumption⟩
  ·cases h
 ·cases h
theorem Xp {pn p kp:mR}(hm:S[i]?=U (.ow<|k+2))(hg:Gl X "sorted")(Du:X.mg "sorted"=G)(Bw:Gl X "len")(Ai:X.mg "len"=G)(hN:X.N[i]?=U x:=by rfl)
  (hv:rZ X.env.scope x:=by walk_at "v1") (hd:kW x:=by decide) (kT:sU x:=by decide)
  (he:dJ [.Name x pn] X.env=(Ã,eW (.Name x pn) X.env)::dJ [] X.env:=by rfl) :
  XS X J S (k+2) (.Return (U<|.Call (.Name "sorted" p) [.Name x pn] [⟨U "key",.Name "len" p2,kp⟩] t3) pos) (É<|e1 rR<|M i):=by
 refine⟨_,u9<|ZM hg Du Bw Ai (xm hN hv hd kT) he,λF0 B F H Y Z o E rs e w=>?_⟩;obtain⟨d0,g1,g2⟩:=c9 e;cases g2;obtain⟨d,h1,h2⟩:=c9 g1;obtain⟨fp,sl,nd,hb⟩:=rs.sl;obtain⟨f1,fr,i1,i2,i3,i4,i5⟩:=sl.put hm;obtain⟨v,CG,ow⟩:=i4 d<|zp h1;refine⟨v,CG,?_⟩;obtain⟨xs,ys,rfl,rfl,lt⟩:=Y7 h2;obtain⟨ad,vs,Bq,rfl,rfl,hF,hH,ol⟩:=ow.lst_inv;cases ol with
 |@cons _ v1 g1 _ _ g2 o1 t1=>
  cases t1 with
  |@cons _ v2 g3 _ _ g4 o2 t2=>
   cases t2;obtain⟨a1,Vb,r1,rfl,rfl,k1,k2,l1⟩:=o1.lst_inv;obtain⟨a2,Vc,r2,rfl,rfl,k3,k4,l2⟩:=o2.lst_inv;have ol:=iH.cons o1<|iH.cons o2 iH.nil;refine⟨ad,a1,a2,Vb,Vc,rfl,iE.of hH,iE.of k2,iE.of k4,by rw[←l1.length,←l2.length];exact lt,λq Kx=>?_⟩;have ne:∀a o,H a=U o->a≠q:=λa o h e=>by rw[e,Kx]at h;cases h
   have fq:F q=G:=rs.fh.free Kx;refine w _ F (upd H q<|.lst [.ref a1,.ref a2]) (q::_) rs.f0 (λa o h=>?_) (λa o h=>?_) rs.nf (.inr<|.lst fq zu<|ol.mono λ_ _ f' Cy o'=>?_) ?_ ?_
   ·have:=rs.bh _ _ h;rw[zo<|ne a o this];exact this
   ·have:=rs.fh _ _ h;rw[zo<|ne a o this];exact this
   ·refine o'.frame (.refl _) λa ha=>?_;obtain⟨q1,o,q2,_⟩:=iH.cellsOf ol a<|Cy a ha;exact⟨zo<|ne a o q2,q1⟩
   ·refine dO.mpr ⟨λh=>?_,(dO.mp (i3 nd).1).2⟩;obtain⟨_,o,q2,_⟩:=iH.cellsOf ol q h;exact ne q o q2 rfl
   ·intro a ha;rcases cP.mp ha with rfl|ha
    ·exact rs.bh.free Kx
    ·exact hb a<|i1 a<|cQ _ ha
def Mo.flat:Mo->Bool
 |.al _=>Â
 |.ow 0=>Â
 |_=>Ã
theorem SL.flat (h:SL K J F B H S Y Z fp)(s:ej B B'):(∀m∈S,m.flat=Â)->SL K J F B' H S Y Z []/\fp=[]:=by
 induction h with
 |nil=>exactλ_=>⟨.nil,rfl⟩
 |no t ih=>exactλhm=>⟨.no (ih λm h=>hm m<|cQ _ h).1,(ih λm h=>hm m<|cQ _ h).2⟩
 |al l t ih=>exactλhm=>⟨.al (l.mono (.refl _) s) (ih λm h=>hm m<|cQ _ h).1,(ih λm h=>hm m<|cQ _ h).2⟩
 |px l t ih=>exactλhm=>absurd (hm _ cK) (by simp[Mo.flat])
 |so o t ih=>exactλhm=>absurd (hm _ cK) (by simp[Mo.flat])
 |@ow n d v S Y Z f fp o t ih=>
  intro hm;have h0:=hm _ cK;cases n with
  |succ n=>cases h0
  |zero=>obtain⟨i1,i2⟩:=ih λm h=>hm m<|cQ _ h;have e:=Ow.nil0 o;subst e i2;exact⟨SL.ow (f:=[]) (fp:=[]) o i1,rfl⟩
theorem RS.base (Kq:∀m∈S,m.flat=Â)(r:RS K J F0 B S F H Y Z)(s:ej B H1)(x:kR F1 H1 F H):RS K J F1 H1 S F H Y Z:=by obtain⟨fp,sl,nd,hb⟩:=r.sl;exact⟨x.ff,x.hh,x.fh,x.nf,[],(sl.flat s Kq).1,dZ,nofun⟩
theorem SL.slot (h:SL K J F B H S Y Z fp):∀{i:Nat} {o:Option V},Y[i]?=U Option.none->SL K J F B H S Y (Z.set i o) fp:=by
 induction h with
 |nil=>intro i o h;cases h
 |no t ih=>
  intro i o h;cases i with
  |zero=>exact .no t
  |succ i=>exact .no<|ih h
 |al l t ih=>
  intro i o h;cases i with
  |zero=>cases h
  |succ i=>exact .al l<|ih h
 |px l t ih=>
  intro i o h;cases i with
  |zero=>cases h
  |succ i=>exact .px l<|ih h
 |so q t ih=>
  intro i o h;cases i with
  |zero=>cases h
  |succ i=>exact .so q<|ih h
 |ow q t ih=>
  intro i o h;cases i with
  |zero=>cases h
  |succ i=>exact .ow q<|ih h
theorem RS.slot {o:Option V}(r:RS K J F0 B S F H Y Z)(h:Y[i]?=U G):RS K J F0 B S F H Y (Z.set i o):=by obtain⟨fp,sl,nd,hb⟩:=r.sl;exact⟨r.f0,r.bh,r.fh,r.nf,fp,sl.slot h,nd,hb⟩
def pI (i:Nat)(p:BF)(Y:Env):List D->Option ï
 |[]=>U<|.nx<|Y.set i G
 |d::O=>(p<|Y.set i<|U d).bind λb=>if b=Â then U (.rt d)else pI i p Y O
def vM (i:Nat)(f:EF)(p:BF):SF:=λY=>if i < Y.length then(f Y).bind λd=>match d with
 |.lst O=>pI i p Y O
 |_=>G else G
theorem zuz {p4:mR}(hm:S[i]?=U (.al<|k+1))(Kq:∀m∈S,m.flat=Â)(hN:X.N.Nodup)(he:XO X J S (k+2) e f)(hc:XT X J S c p)(hp:lC (dz X.prog X.w) X.A X.env X.xe)(J5:X.calm=Â)(hi:X.N[i]?=U x:=by rfl)
  (hx:ë X.env.scope x:=by walk_at "v3") (hv:rZ X.env.scope x:=by walk_at "v1") (hd:kW x:=by decide) (kT:sU x:=by decide)
  (hf:uQ X x:=by walk_at "v2") (hs:A0 X e:=by intro _;rfl) :
  XS X J S (k+1) (.For (.Name x p1) e [.If c [.Return (U<|.Name x p2) p3] [] p4] [] pos) (vM i f p):=by
 obtain⟨t,pt,qt⟩:=he;obtain⟨tc,UO,qc⟩:=hc;have same:S.set i (.al<|k+1)=S:=by
  apply nN;intro j;by_cases hj:i=j
  ·subst hj;rw[f6 (dM.mp hm).1,hm]
  ·rw[jT hj]
 refine⟨_,Rq hp J5 (IV pt) (IU hN hi hx hf) (Hr<|Ju UO (Hr<|u9<|xm hi hv hd kT) Mx) hs,λF0 B F H Y Z o E rs e z=>?_⟩;unfold vM at e;by_cases Fe:i < Y.length
 case neg=>rw[if_neg Fe]at e;cases e
 rw[if_pos Fe]at e;obtain⟨d,h1,h2⟩:=c9 e;refine qt F0 B F H Y Z d _ rs h1 λv F1 H1 fp x1 ow nd HV=>?_;cases d with
 |lst O=>
  have h2:pI i p Y O=U o:=h2;obtain⟨A,vs,fr,rfl,rfl,hFA,JZ,ol⟩:=ow.lst_inv;have FX:∀a∈A::fr,B a=G:=λa ha=>rs.bh.free<|HV a ha;have qO:=rs.ext x1;have sB:ej B H1:=qO.bh;have Ud:Pr (Al X.K J F1 H1<|k+1) O vs:=by
   have key:∀{O:List D} {vs:List V} {fr:List cN},iH (Ow X.K J F1 H1<|k+1) O vs fr->Pr (Al X.K J F1 H1<|k+1) O vs:=by
    intro O vs fr h;induction h with
    |nil=>exact .nil
    |cons h t ih=>exact .cons (h.al x1.fh) ih
   exact key ol
  refine⟨A,rfl,⟨vs,iE.of JZ⟩,?_⟩;have ok:=HB (J:=J) (V':=H1) (a:=A) Ud λF2 H2 s1 s2 s3=>iE.of<|s2 _ _ JZ;refine⟨λj m Z H=>m=O.length-j/\j<=O.length/\∃F,kR F1 H1 F H/\RS X.K J F0 B S F H (Y.set i G) Z/\pI i p Y (O.drop j)=U o,⟨O.length,rfl,e8 _,F1,.refl x1.fh,by have:=qO.forget (.al<|k+1) i;rwa[same]at this,h2⟩,?_⟩;rintro j m Z H ⟨rfl,Kh,F,xe,rs,e⟩;obtain⟨k1,k2⟩:=ok j F H xe.ff xe.hh xe.fh;by_cases tV:j<O.length
  ·right;have NK:O[j]?=U O[j]:=by simp[tV]
   obtain⟨go,yl⟩:=k1 _ NK;rw[hU tV]at e;obtain⟨b,h3,h4⟩:=c9 e;refine⟨go,λZ H=>j+1<=O.length/\∃F,kR F1 H1 F H/\RS X.K J F0 B S F H (Y.set i G) Z/\pI i p Y (O.drop<|j+1)=U o,λσ' H' h=>⟨O.length-(j+1),by lia,rfl,h⟩,λy H2 hy=>?_⟩;obtain⟨F2,x2,l⟩:=yl y H2 hy;have Ho:=xe.trans x2;have B7:RS X.K J F0 B S F2 H2 (Y.set i G) (Z.set i<|U y):=(rs.ext x2).slot (by rw[f6 Fe]);have rb:=RS.base Kq B7 sB Ho;have rd:RS X.K J F1 H1 S F2 H2 (Y.set i<|U O[j]) (Z.set i<|U y):=by obtain⟨kP,sl,BE,TK⟩:=rb.sl;have q:=sl.setA l hm;rw[wY,wY]at q;exact⟨rb.f0,rb.bh,rb.fh,rb.nf,kP,q,BE,TK⟩
   refine qc F1 H1 F2 H2 _ _ b _ rd h3 λF3 H3 x3=>?_;have Fo:=Ho.trans x3;cases b with
   |true=>
    rw[if_pos rfl]at h4 ⊢;cases h4;obtain⟨w,hw,_⟩:=rd.get hm (by rw[f6 Fe]);have hσ:i < Z.length:=by
     by_cases hσ:i < Z.length
     ·exact hσ
     ·rw[pz<|by rw[tQ];lia]at hw;cases hw
    refine⟨y,by rw[f6 hσ],?_⟩;obtain⟨g,oj,sub⟩:=ol.get NK<|hy.2 vs<|iE.of<|xe.hh _ _ JZ;exact z y F3 H3 g (qO.f0.trans Fo.ff) (sB.trans Fo.hh) Fo.fh (λa o h t n=>Fo.nf a o (sB _ _ h) t<|qO.nf a o h t n) (oj.ext Fo) (sub.nodup (dO.mp nd).2) λa ha=>FX a<|cQ _<|sub.subset ha
   |false=>rw[if_neg cZ]at h4 ⊢;exact⟨tV,F3,Fo,B7.ext x3,h4⟩
  ·left;refine⟨k2<|by lia,?_⟩
   rw[oP<|by lia]at e;cases e;exact z Z F H rs
 |_=>cases h2
def xK (H:Hp)(f:List cN):Hp:=λb=>if b∈f then G else H b
theorem YV (H:Hp)(f:List cN):ej (xK H f) H:=λb o h=>by
 unfold xK at h;by_cases e:b∈f
 ·rw[if_pos e]at h;cases h
 ·rw[if_neg e]at h;exact h
theorem zu0 {f:List cN}{b:cN}(h:b∈f):xK H f b=G:=if_pos h
theorem MH {f:List cN}{b:cN}(h:b∉f):xK H f b=H b:=if_neg h
def tH (K:cL)(J:Nat->cN)(n m:Nat)(mf:List D->Option D):Sp:=λvs H Q _=>∃(F:Hp) (O es:List D) (us ws:List V) (d p p':D) (a:cN) (f:List cN),vs=us ++ .ref a::ws/\O.length=n/\es.length=m/\ej F H/\Pr (Dt K J F) O us/\Pr (Dt K J F) es ws/\Ow K J F H 1 p (.ref a) f/\f.Nodup/\mf (O++p::es)=U (.tup [d,p']) /\
 ∀v F' H' f',ej F F'->(∀x o,H x=U o->x∉f->H' x=U o)->ej F' H'->(∀x o,H x=U o->x∉f->oR o->F x=G->F' x=G)->Ow K J F' H' 1 p' (.ref a) f'->f'.Nodup->(∀x∈f',x∈f\/H x=G)->Dt K J F' d v->Q v H'
theorem tH.len (h:n+1+m=ps.length):∀vs H Q E,tH K J n m mf vs H Q E->vs.length=ps.length:=by rintro vs H Q E ⟨F,O,es,us,ws,d,p,p',a,f,rfl,hn,hm,_,l,l2,_⟩;rw[←h,←hn,←hm,l.length,l2.length,ee,cX];lia
def Ý (n:Nat)(N:List Str)(bf:EM)(O:List D):Option D:=(bf<|Ú N O).bind λr=>(r.2[n]?).join.bind λp=>U<|.tup [r.1,p]
theorem yz {w:d8}{base:c7}{fd:cT}{bf:EM}(Fn:ì K x qual st fa fd)(W':gq N ps<|dS st)(CA:n+1+m=ps.length)(Du:n+1+m+S.length=N.length)
  (body:∀(a:cN) (kO:cJ) (A:d6) (outer:List PySem.Env) (s:cU) (H:Hp) (E:XK),gu kk (A.deeper<|envOfC qual (dS st) s.heap.objs.size fa kO)->xG (tU fQ P w K mg base N qual (dS st) fa kO A outer s H E).nox J (cY n (Mo.ow 0) ++ .so a::(cY m (Mo.ow 0)++S)) (iT st) bf) :
  dR P w K mg base fQ (kk+1) fa fd ps (tH K J n m<|Ý n N bf):=by
 refine Fn.ok W' (tH.len CA) λkO A outer s H vs Q E hr h=>?_;obtain⟨F,O,es,us,ws,d,p,p',a,f,rfl,hn,Gs,sF,l,l2,oa,nf,hm,z⟩:=h;subst hn Gs;obtain⟨t,pt,qt⟩:=body a kO A outer s H E hr;refine⟨t,pt,?_⟩;obtain⟨⟨d1,ρ'⟩,h1,h2⟩:=c9 hm;obtain⟨p1,h3,h4⟩:=c9 h2;cases h4;refine qt F (xK H f) F H (Ú N (O++p::es)) ρ' (L2.start N (us ++ .ref a::ws)) d1 _ ⟨.refl _,YV _ _,sF,λ_ _ _ _ h=>h,f++[],?_,by rw[dU];exact nf,λy hy=>zu0<|by rwa[dU]at hy⟩ h1 ?_
 ·have e1:Ú N (O++p::es)=O.map U++(U p::(es.map U++cY S.length G)):=by unfold Ú;rw[show N.length-(O++p::es).length=S.length by rw[ee,cX];lia];simp
  have L:L2.start N (us ++ .ref a::ws)=us.map U++(U (.ref a)::(ws.map U++cY S.length G)):=by unfold L2.start;rw[show N.length-(us++V.ref a::ws).length=S.length by rw[ee,cX,←l.length,←l2.length];lia];simp
  rw[e1,L];have q2:=SL.app (SL.none (K:=K) (J:=J) (F:=F) (B:=xK H f) (H:=H) S)<|SL.start0 (B:=xK H f) (H:=H) l2;have q3:=SL.app (SL.so oa q2)<|SL.start0 (B:=xK H f) (H:=H) l;exact q3
 ·intro v σ' F' H' r dt;obtain⟨f',_,o1,n1,b1,_⟩:=r.pin (i:=O.length) (x0:=a) (by simp)<|zp h3;refine z v F' H' f' r.f0 (λy o hy n1=>r.bh _ _<|by rw[MH n1];exact hy) r.fh (λy o hy ny t hn=>r.nf y o (by rw[MH ny];exact hy) t hn) o1 n1 (λy hy=>?_) dt;by_cases e:y∈f
  ·exact .inl e
  ·exact .inr<|(MH e).symm.trans<|b1 y hy
section
def pC (K:cL)(J:Nat->cN)(S:List Mo)(i:Nat):Prop:=∀(F0 B F H:Hp) (Y:Env) (Z:St) (p:D),RS K J F0 B S F H Y Z->Y[i]?=U (U p)->nI p=Â ->
 ∃a f,Z[i]?=U (U<|.ref a)/\Ow K J F H 1 p (.ref a) f/\f.Nodup/\(∀y∈f,B y=G) /\
  ∀(F' H':Hp) (p':D) (f':List cN),ej F F'->(∀x o,H x=U o->x∉f->H' x=U o)->ej F' H'->(∀x o,H x=U o->x∉f->oR o->F x=G->F' x=G)->Ow K J F' H' 1 p' (.ref a) f'->f'.Nodup->(∀x∈f',x∈f\/H x=G)->RS K J F0 B S F' H' (Y.set i<|U p') Z
theorem yW (Ua:S[i]?=U (.ow 1)):pC K J S i:=λF0 B F H Y Z p rs hp cp=>by
 obtain⟨f1,fr,n1,b1,dj,i4,cf,put⟩:=rs.put (F':=F) (H':=H) Ua;obtain⟨v,hσ,ow⟩:=i4 p hp;obtain⟨a,f,rfl,rfl⟩:=ow.cell cp;refine⟨a,_,hσ,ow,n1,b1,λF' H' p' f' s1 kH s3 nf o1 BE Ct=>?_⟩;have nB:∀{y o},B y=U o->y∉a::f:=λhy z=>by rw[b1 _ z]at hy;cases hy
 have r:=put F' H' p' (.ref a) f' s1 (λy o hy=>kH y o (rs.bh _ _ hy)<|nB hy) s3 (λy o hy t hn=>nf y o (rs.bh _ _ hy) (nB hy) t<|rs.nf y o hy t hn) (λy hy=>by
  obtain⟨hn,o,ho,nt⟩:=cf y hy;have ny:y∉a::f:=λz=>dj y z hy;exact⟨(kH y o ho ny).trans ho.symm,nf y o ho ny nt hn⟩) o1 BE (λy hy zb=>(Ct y hy).elim (λz=>dj y z zb) λe=>by
  obtain⟨hn,o,ho,nt⟩:=cf y zb;rw[e]at ho;cases ho)<|λy hy=>(Ct y hy).elim (b1 y) λe=>rs.bh.free e
 rw[Z1 hσ]at r;exact r
theorem oU {a:cN}(h:S[i]?=U (.so a)):pC K J S i:=λF0 B F H Y Z p rs hp hc=>by obtain⟨f,h1,h2,n,hB,put⟩:=rs.pin h hp;refine⟨a,f,h1,h2,n,hB,λF' H' p' f' s1 kH s3 nf o1 BE Ct=>put F' H' p' f' s1 kH s3 nf (λy o hy t hn=>nf y o (rs.bh _ _ hy) (λz=>by rw[hB _ z]at hy;cases hy) t<|rs.nf y o hy t hn) o1 BE Ct⟩
def E5 (X:Cx)(J:Nat->cN)(S:List Mo)(es:List Expr)(g:Env->Option (List D)):Prop:=∃t,PA X es t/\∀(F0 B F H:Hp) (Y:Env) (Z:St) (es:List D) (Q:List V->Hp->Prop),RS X.K J F0 B S F H Y Z->g Y=U es->(∀ws F' H',kR F H F' H'->Pr (Dt X.K J F') es ws->Q ws H')->t Z H Q
theorem x8:E5 X J S [] Å:=⟨_,xx,λF0 B F H Y Z es Q rs e z=>by cases e;exact z [] F H (.refl rs.fh) .nil⟩
theorem yq (h1:XE X J S 0 a f)(h2:E5 X J S es fs)(hs:SE X a es:=by rfl):E5 X J S (a::es) (C f fs):=by obtain⟨t,pt,qt⟩:=h1;obtain⟨t2,vY,wB⟩:=h2;refine⟨_,ye pt vY hs,λF0 B F H Y Z O Q rs e z=>?_⟩;obtain⟨d,ds',g1,g2,g3⟩:=fu e;cases g3;refine qt F0 B F H Y Z d _ rs g1 λv F1 H1 x1 l=>?_;exact wB F0 B F1 H1 Y Z ds' _ (rs.ext x1) g2 λus F2 H2 x2 l2=>z (v::us) F2 H2 (x1.trans x2)<|.cons (Dt.mono x2.ff l) l2
variable {fd:cT}
end
mutual
inductive KC (K:cL):D->cJ->Prop
 |non:KC K .non .none
 |int {i:Int} {t:Tok}:KC K (.int i) (.int i t)
 |str {x:Str} {t:Tok}:KC K (.str x) (.str x t)
 |kt {a:cN} {od:Option cN} {eE:Array cJ} {n:Nat} {sl:Array (Option cJ)} {O:List D}:K.lookup a=U ⟨.type "tuple",od,.seq eE n,sl⟩->eE.size<=1000->û K O eE.toList->KC K (.kt O) (.ref a)
inductive û (K:cL):List D->List cJ->Prop
 |nil:û K [] []
 |cons {d:D} {u:cJ} {O:List D} {us:List cJ}:KC K d u->û K O us->û K (d::O) (u::us)
end
theorem KC.dt {u:cJ}(h:KC K d u):∃v,Ì v u/\∀F,Dt K J F d v :=
 KC.rec (motive_1:=λd u _=>∃v,Ì v u/\∀F,Dt K J F d v) (motive_2:=λO us _=>∃vs,ez vs us/\∀F,â K J F O vs) ⟨.non,rfl,λ_=>.non⟩ (λ{i t}=>⟨.int i,⟨t,rfl⟩,λ_=>.int i⟩) (λ{x t}=>⟨.str x,⟨t,rfl⟩,λ_=>.str x⟩)
  (λ{a} _ _ _ _ _ l z _ ⟨vs,r,q⟩=>⟨.ref a,rfl,λF=>.kt ⟨_,_,_,l,rfl,rfl,ò z,r⟩<|q F⟩) ⟨[],.nil,λ_=>.nil⟩ (λ_ _ ⟨v,r,q⟩ ⟨vs,rs,qs⟩=>⟨v::vs,.cons r rs,λF=>.cons (q F)<|qs F⟩) h
class inductive KL (K:cL):List (Str×D)->List (Str×cJ)->Prop
 |nil:KL K [] []
 |cons {k:Str} {d:D} {u:cJ} {ts:List (Str×D)} {K':List (Str×cJ)}:KC K d u->KL K ts K'->KL K ((k,d)::ts) ((k,u)::K')
variable {K':List (Str×cJ)}{ts:List (Str×D)}
theorem KL.look (h:KL K ts K')(x:Str):(K'.lookup x).isSome=(ts.lookup x).isSome/\∀d,ts.lookup x=U d->∃u,K'.lookup x=U u/\KC K d u:=by
 induction h with
 |nil=>exact⟨rfl,λd e=>by cases e⟩
 |@cons k d u ts K' q t ih=>
  rw[df,df];cases x==k with
  |true=>exact⟨rfl,λd' e=>by cases e;exact⟨u,rfl,q⟩⟩
  |false=>exact ih
def KG (K:cL)(w:d8)(mg:Str->Option cJ)(x:Str)(ts:List<|Str×D):Prop:=∃da K',KD K w mg x da K'/\KL K ts K'
def En (ts:List<|Str×D):D->Option D
 |.str k=>ts.lookup k
 |_=>G
def rL (neg:Bool)(ts:List<|Str×D):D->Option D
 |.str k=>U<|.bl<|if neg then !(ts.lookup k).isSome else(ts.lookup k).isSome
 |_=>G
section
variable {p:mR}
theorem R9 (h:∃u,X.mg x=U u/\KC X.K d u)(hg:Gl X x:=by rfl)(hd:kW x:=by decide):XE X J S n (.Name x pos) (eC d):=by obtain⟨u,hm,q⟩:=h;obtain⟨v,r,q⟩:=q.dt (J:=J);refine⟨_,Mw hg hm r hd,λF0 B F H Y Z d' Q rs e w=>?_⟩;cases e;exact w _ F H (.refl rs.fh)<|Al.of<|q F
theorem R4 (V':KG X.K X.w X.mg x ts)(he:XE X J S n e f)(hg:Gl X x:=by rfl)(hs:yS e:=by exactλ_ _=>rfl)(hd:kW x:=by decide):XE X J S k (.Subscript (.Name x p) e pos) (e1 (En ts) f):=by
 obtain⟨da,K',D,l⟩:=V';obtain⟨t,pt,qt⟩:=he;refine⟨_,Ő D hg pt hs hd,λF0 B F H Y Z d Q rs e w=>?_⟩;obtain⟨y,h1,h2⟩:=c9 e;refine qt F0 B F H Y Z y _ rs h1 λv F1 H1 x1 l1=>?_;cases y with
 |str z=>obtain⟨u,h3,h4⟩:=(l.look z).2 d h2;obtain⟨v',r,q⟩:=h4.dt (J:=J);exact⟨z,u,v',l1.str,h3,r,w v' F1 H1 x1<|Al.of<|q F1⟩
 |_=>cases h2
theorem zu1 (V':KG X.K X.w X.mg x ts)(he:XE X J S n e f)(hg:Gl X x:=by rfl)(hd:kW x:=by decide)(hm:f9 .In (.Name x p)=Ã:=by rfl):XT X J S (.Compare e [.In] [.Name x p] pos) (tb<|e1 (rL Ã ts) f):=by
 obtain⟨da,K',D,l⟩:=V';obtain⟨t,pt,qt⟩:=he;refine⟨_,MS (zt0 D hg pt hd) hm,λF0 B F H Y Z b Q rs e w=>?_⟩;obtain⟨d,h0,h4⟩:=c9 e;obtain⟨y,h1,h2⟩:=c9 h0;refine qt F0 B F H Y Z y _ rs h1 λv F1 H1 x1 l1=>?_;cases y with
 |str z=>cases h2;cases h4;refine⟨z,l1.str,_,rfl,?_⟩;rw[(l.look z).1];exact w F1 H1 x1
 |_=>cases h2
theorem XY (V':KG X.K X.w X.mg x ts)(he:XE X J S n e f)(hg:Gl X x:=by rfl)(hd:kW x:=by decide)(hm:f9 .NotIn (.Name x p)=Ã:=by rfl):XT X J S (.Compare e [.NotIn] [.Name x p] pos) (tb<|e1 (rL Â ts) f):=by
 obtain⟨da,K',D,l⟩:=V';obtain⟨t,pt,qt⟩:=he;refine⟨_,MS (Yd D hg pt hd) hm,λF0 B F H Y Z b Q rs e w=>?_⟩;obtain⟨d,h0,h4⟩:=c9 e;obtain⟨y,h1,h2⟩:=c9 h0;refine qt F0 B F H Y Z y _ rs h1 λv F1 H1 x1 l1=>?_;cases y with
 |str z=>cases h2;cases h4;refine⟨z,l1.str,_,rfl,?_⟩;rw[(l.look z).1];exact w F1 H1 x1
 |_=>cases h2
def C4:List D->Option (List D)
 |[.lst xs,.kt ys]=>U<|rS xs ys
 |_=>G
theorem zu2 (us:List cJ)(h:us.length=2):checkTypeCall "zip" ⟨us,[]⟩=pure ()/\checkBuiltinCall "zip.__new__" ⟨.type "zip"::us,[]⟩=pure ()/\∀obj,argsOk "object.__init__" ⟨obj::us,[]⟩:=by
 match us,h with
 |[a,b],_=>exact⟨F.typeCall_zip_2 _ _,F.newCall_zip_2 _ _,λobj=>F.args_object_init_3 obj _ _⟩
theorem RF {kt:Nat}(hm:X.mg "zip"=G)(ha:XA X J S [a,b] [0,0] fs)(hg:Gl X "zip":=by rfl)(he:dJ [a,b] X.env=(Ã,eW a X.env)::dJ [b] X.env:=by rfl)(hp:(i8 pos<|dJ [b] X.env).any (·.1)=Ã:=by rfl) :
  Cm X J S 1 (.Tuple tI kt pt) (.Call (.Name "zip" pp) [a,b] [] pos) (λY=>(fs Y).bind C4):=by
 obtain⟨t,pt,_,qt⟩:=ha;refine⟨_,UM (by decide) (by decide) zu2 hg hm pt he hp,λF0 B F H Y Z O R rs e w=>?_⟩;obtain⟨ds',h1,h2⟩:=c9 e;refine qt F0 B F H Y Z _ _ rs h1 λvs F' H' x l=>?_;cases l with
 |cons h t=>
  cases t with
  |cons h' t=>
   cases t;rename_i d v d' v';cases d with
   |lst xs=>
    cases d' with
    |kt ys=>
     cases h2;obtain⟨a,vs,rfl,ha,hp⟩:=Dt.lst_inv h;obtain⟨b,us,rfl,hb,xL⟩:=Al.kt (n:=0) (V':=H') h';have sq:∀{H2:Hp},iE X.K H2 a vs->∀q∈[(a,Ã),(b,Â)],∃xs,Sq X.K H2 q xs:=λhs q hq=>by
      simp only[cP,dm,or_false]at hq;rcases hq with rfl|rfl
      ·exact⟨vs,hs⟩
      ·exact⟨us,.inr hb⟩
     refine⟨[(a,Ã),(b,Â)],rfl,rfl,sq<|x.fh.seq ha,w _ F' H' x λi F2 H2 s1 s2 s3=>?_⟩;have hs:iE X.K H2 a vs:=s3.seq<|s1.seq ha;have Ef:pX X.K H2 b us:=.inr hb;refine⟨λd hd=>?_,λhl=>⟨sq hs,?_⟩⟩
     ·obtain⟨x,y,hx,hy,rfl⟩:=Mf hd;obtain⟨v,hv,l⟩:=hp.pr.get' hx;obtain⟨u,hu,l'⟩:=xL.get' hy;refine⟨λq hq=>?_,λz H3 q=>?_⟩
      ·simp only[cP,dm,or_false]at hq;rcases hq with rfl|rfl
       ·exact⟨vs,hs,v,hv⟩
       ·exact⟨us,Ef,u,hu⟩
      ·obtain⟨r,g,hr,rfl,rfl,q⟩:=q;have e1:=hv.symm.trans (q (a,Ã) (by simp) vs hs);have L:=hu.symm.trans (q (b,Â) (by simp) us Ef);rw[dC,dC,si,←Option.some.inj e1,←Option.some.inj L];exact⟨_,kR.newS s3 hr _,.inr<|.tup zu<|.cons (Dt.mono (s1.trans<|wm (s3.free hr) _) l)<|.cons (Dt.mono (s1.trans<|wm (s3.free hr) _) l') .nil⟩
     ·rw[Mg,hp.pr.length,xL.length]at hl;rcases(by lia:vs.length<=i\/us.length<=i)with h|h
      ·exact⟨(a,Ã),by simp,vs,hs,h⟩
      ·exact⟨(b,Â),by simp,us,Ef,h⟩
    |_=>cases h2
   |_=>cases h2
end
variable {Hb:eo}
section
open PySem PySem.Spec L2
open PyProof.Rows hiding St
open PySem.W
noncomputable def ku {α:Type}(f:Str)(y:α):List Str->List α->List α
 |n::ns,v::vs=>if n=f then y::vs else v::ku f y ns vs
 |_,vs=>vs
theorem IP {f:Str}{y:V}:∀{ns:List Str} {vs:List V},ns.length=vs.length->ns.contains f=Â->nJ f y (ns.zip vs)=ns.zip (ku f y ns vs)
 |[],_,_,h=>by cases h
 |_::_,[],h,_=>by simp at h
 |n::ns,v::vs,h,hc=>by
  show(if n=f then _ else _)=_;unfold ku;by_cases e:n=f
  ·rw[if_pos e,if_pos e];rfl
  ·rw[if_neg e,if_neg e,eh];show(n,v)::nJ f y (ns.zip vs)=_;rw[IP (by simpa using h)<|by rw[iY,jC]at hc;exact hc.resolve_left λz=>e (eq_of_beq z).symm]
theorem Mh {α:Type}{f:Str}{y:α}:∀{ns:List Str} {vs:List α},(ku f y ns vs).length=vs.length
 |[],_=>by unfold ku;rfl
 |_::_,[]=>by unfold ku;rfl
 |n::ns,v::vs=>by
  unfold ku;by_cases e:n=f
  ·rw[if_pos e];rfl
  ·rw[if_neg e,cX,Mh,cX]
theorem IZ {R:D->V->Prop}{f:Str}{d:D}{y:V}(r:R d y):∀{ns:List Str} {O:List D} {vs:List V},Pr R O vs->Pr R (ku f d ns O) (ku f y ns vs)
 |[],_,_,h=>by unfold ku;exact h
 |_::_,_,_,.nil=>by unfold ku;exact .nil
 |n::ns,_,_,.cons h t=>by
  unfold ku;by_cases e:n=f
  ·rw[if_pos e,if_pos e];exact .cons r t
  ·rw[if_neg e,if_neg e];exact .cons h<|IZ r t
theorem Mi {α:Type}{x y:Str}{v:α}(h:x≠y):∀{ns:List Str} {vs:List α},(ns.zip<|ku x v ns vs).lookup y=(ns.zip vs).lookup y
 |[],_=>by unfold ku;rfl
 |_::_,[]=>by unfold ku;rfl
 |n::ns,w::vs=>by
  unfold ku;by_cases e:n=x
  ·subst e;rw[if_pos rfl,eh,eh,df,df,beq_eq_false_iff_ne.mpr<|Ne.symm h]
  ·rw[if_neg e,eh,eh,df,df,Mi h]
theorem kY.set {y:V}{ns:List Str}{vs:List V}(h:kY K J F H ns O vs fb)(hx:x≠"puts"):kY K J F H ns (ku x d ns O) (ku x y ns vs) fb:=by unfold kY at h ⊢;rw[Mi hx,Mi hx];exact h
section
def nj (i:Nat)(cs:List Nat)(x:Str)(f:EF):SF:=λY=>(f Y).bind λd=>(M i Y).bind λo=>match o with
 |.obj c ns O=>if cs.contains c=Â/\ns.contains x=Â/\ns.length<900 then U (.nx<|Y.set i<|U<|.obj c ns<|ku x d ns O)else G
 |_=>G
theorem QH {xa dx:cN}{cc:Nat}{ns:List Str}{vs:List V}{y:V}(hF:F xa=G)(hl:ns.length=vs.length)(cf:kY K J F H ns O vs fb)(hx:x≠"puts")(nb:xa∉fb)(ol:Pr (Dt K J F) O vs)(l:Dt K J F d y) :
  Ow K J F (upd H xa<|.ins (J cc) dx<|ns.zip<|ku x y ns vs) 1 (.obj cc ns<|ku x d ns O) (.ref xa) (xa::(fb++[])) :=
 .inr (Ac.obj (vs:=ku x y ns vs) hF zu (by rw[Mh];exact hl) ((cf.set hx).frame (.refl _) λb z=>⟨zo λe=>nb (e▸z),(cf.cells b z).1⟩)<|iH.ofPr<|(IZ l ol).mono λ_ _ q=>⟨q,rfl⟩)
theorem Hw (hC:pC X.K J S i)(hc:∀c∈cs,nY X.K (J c)/\fP X.K (J c) x)(he:XE X J S 0 e f)(hx:x≠"puts":=by decide)(hN:X.N[i]?=U s:=by rfl)(hv:rZ X.env.scope s:=by walk_at "v1")(hd:kW s:=by decide)
  (kT:sU s:=by decide) (hs:gk e (U<|.Attribute (.Name s p1) x pos') pos.line X.env=pure Ã:=by rfl):XS X J S rk (.Assign [.Attribute (.Name s p1) x pos'] e pos) (nj i cs x f):=by
 obtain⟨t,pt,qt⟩:=he;refine⟨_,Jh (xm hN hv hd kT) pt hs,λF0 B F H Y Z o E rs e z=>?_⟩;obtain⟨d,h1,h2⟩:=c9 e;obtain⟨ob,h3,h4⟩:=c9 h2;refine qt F0 B F H Y Z d _ rs h1 λy F1 H1 x1 l=>?_;cases ob with
 |obj c ns O=>
  dsimp only at h4;by_cases hz:cs.contains c=Â/\ns.contains x=Â/\ns.length<900
  ·rw[if_pos hz]at h4;cases h4;obtain⟨xa,fq,hσ,ow,nq,hB,put⟩:=hC _ _ _ _ _ _ _ (rs.ext x1) (zp h3) rfl;obtain⟨a,dx,vs,fr,e1,⟨fb,rfl,cf⟩,hF,hH,hl,ol⟩:=ow.obj_inv;cases e1;have e0:=ol.nil0;subst e0;have hh:=hc c (by simpa using hz.1);refine⟨_,hσ,xa,_,dx,_,rfl,hH,hh.1,hh.2,by rw[ij,←hl,i7];lia,?_⟩;rw[IP hl hz.2.1];exact z Z F1 _ (put F1 _ _ _ (.refl _) (λb o h ne=>by rw[zo<|λe=>ne<|by rw[e];exact cK];exact h) (λb o h=>by rw[zo<|λe=>by rw[e,hF]at h;cases h];exact x1.fh _ _ h) (λb o h _ _ hn=>hn) (QH hF hl cf hx (λz=>(dO.mp nq).1<|cV _ z) (ol.pr λ_ _ _ _ q=>q.1) l) nq λb z=>.inl z)
  ·rw[if_neg hz]at h4;cases h4
 |_=>cases h4
def Ao (i:Nat)(cs:List Nat)(x:Str)(f:EF):SF:=λY=>(M i Y).bind λo=>(f Y).bind λd=>match o,d with
 |.obj c ns O,.int b=>if cs.contains c=Â/\ns.contains x=Â/\ns.length<900 then match (ns.zip O).lookup x with
  |some (.int a)=>U<|.nx<|Y.set i<|U<|.obj c ns<|ku x (.int<|a+b) ns O
  |_=>G else G
 |_,_=>G
theorem zu3 (hC:pC X.K J S i)(hc:∀c∈cs,nY X.K (J c)/\fP X.K (J c) x)(he:XE X J S 0 e f)(hx:x≠"puts":=by decide)(hN:X.N[i]?=U s:=by rfl)(hv:rZ X.env.scope s:=by walk_at "v1")(hd:kW s:=by decide)
  (kT:sU s:=by decide):XS X J S rk (.AugAssign (.Attribute (.Name s p1) x qY) .Add e pos) (Ao i cs x f):=by
 obtain⟨t,pt,qt⟩:=he;refine⟨_,Yi (xm hN hv hd kT) pt Μ,λF0 B F H Y Z o E rs e z=>?_⟩;obtain⟨ob,d,h3,h1,h4⟩:=fu e;cases ob with
 |obj c ns O=>
  cases d with
  |int bi=>
   dsimp only at h4;by_cases hz:cs.contains c=Â/\ns.contains x=Â/\ns.length<900
   ·rw[if_pos hz]at h4;have hh:=hc c (by simpa using hz.1);cases AI:(ns.zip O).lookup x with
    |none=>rw[AI]at h4;cases h4
    |some d1=>
     rw[AI]at h4;cases d1 with
     |int ai=>cases h4;obtain⟨xa,fq,hσ,ow,_⟩:=hC _ _ _ _ _ _ _ rs (zp h3) rfl;obtain⟨a,dx,vs,fr,e1,_,hF,hH,hl,ol⟩:=ow.obj_inv;cases e1;obtain⟨v1,Um,l1⟩:=uo (ol.pr (R':=Dt X.K J F) λ_ _ _ _ q=>q.1) AI;cases l1;refine⟨_,hσ,xa,_,dx,_,_,rfl,hH,hh.1,hh.2,Um,qt F0 B F H Y Z _ _ rs h1 λy F1 H1 x1 l=>?_⟩;have ey:=Al.int l;subst ey;refine⟨ai,bi,rfl,rfl,?_⟩;obtain⟨xa',fq',Ek,Ld,N7,hB',Lf⟩:=hC _ _ _ _ _ _ _ (rs.ext x1) (zp h3) rfl;rw[hσ]at Ek;cases Ek;obtain⟨a,FY,LJ,fr,e1,⟨fb,rfl,cf⟩,Nw,TC,B1,N8⟩:=Ld.obj_inv;cases e1;have e0:=N8.nil0;subst e0;refine⟨FY,_,TC,by rw[ij,←B1,i7];lia,?_⟩;rw[IP B1 hz.2.1];exact z Z F1 _ (Lf F1 _ _ _ (.refl _) (λb o h ne=>by rw[zo<|λe=>ne<|by rw[e];exact cK];exact h) (λb o h=>by rw[zo<|λe=>by rw[e,Nw]at h;cases h];exact x1.fh _ _ h) (λb o h _ _ hn=>hn) (QH Nw B1 cf hx (λz=>(dO.mp N7).1<|cV _ z) (N8.pr λ_ _ _ _ q=>q.1)<|.int _) N7 λb z=>.inl z)
     |_=>cases h4
   ·rw[if_neg hz]at h4;cases h4
  |_=>cases h4
 |_=>cases h4
variable {fd:cT}
def BJ (i:Nat)(Y:Env):D->Option (D×Env)
 |.tup [d,p']=>U (d,Y.set i<|U p')
 |_=>G
theorem YW {r:D}(h:BJ i Y r=U (d,ρ')):∃p',r=.tup [d,p']/\ρ' = Y.set i (U p'):=by
 unfold BJ at h;split at h
 ·cases h;exact⟨_,rfl,rfl⟩
 ·cases h
def pG (i:Nat)(gs:Env->Option (List D))(mf:List D->Option D):EM:=λY=>(M i Y).bind λp=>(gs Y).bind λes=>if nI p=Â then(mf (p::es)).bind (BJ i Y)else G
theorem MX {pd:D}{es:List D}{ws:List V}{a0:cN}{Q:VK}{E:XK}(hC:pC K J S i)(rs:RS K J F0 B S F H Y Z)(x1:kR F H F1 H1)(hp:Y[i]?=U (U pd))(hc:nI pd=Â)(hσ:Z[i]?=U (U<|.ref a0))(l2:Pr (Dt K J F1) es ws)(hm:es.length=m)
  (h7:(mf (pd::es)).bind (BJ i Y)=U (d,ρ')) (z:∀v F' H',RS K J F0 B S F' H' ρ' Z->Dt K J F' d v->Q v H'):tH K J 0 m mf (.ref a0::ws) H1 Q E:=by
 obtain⟨r,h6,h8⟩:=c9 h7;obtain⟨p',rfl,rfl⟩:=YW h8;obtain⟨a,f,Ek,oa,nf,Ba,put⟩:=hC _ _ _ _ _ _ _ (rs.ext x1) hp hc;rw[hσ]at Ek;cases Ek;exact⟨F1,[],es,[],ws,d,pd,p',a0,f,rfl,rfl,hm,x1.fh,.nil,l2,oa,nf,h6,λv F' H' f' s1 kH s3 UH o1 BE Ct dt=>z v F' H' (put F' H' p' f' s1 kH s3 UH o1 BE Ct) dt⟩
theorem Mj {gs:Env->Option (List D)}(hC:pC X.K J S i)(d:iX X.K X.mg x Hb ps fa fd)(Fn:dR X.prog X.w X.K X.mg X.base fQ kk fa fd ps<|tH X.K J 0 m mf)(hr:gu kq X.A)(hn:∀Y O,gs Y=U O->O.length=m)(ha:E5 X J S es gs)(uT:kk<=kq:=by decide)(hg:Gl X x:=by rfl)
  (hN:X.N[i]?=U s:=by rfl) (hv:rZ X.env.scope s:=by walk_at "v1") (hd:kW s:=by decide) (kT:sU s:=by decide)
  (oV:kW x:=by decide) (he:dJ (.Name s p1::es) X.env=(Ã,eW (.Name s p1) X.env)::dJ es X.env:=by rfl) (lW:pW X pos es:=by rfl) :
  XM X J S (.Call (.Name x pp) (.Name s p1::es) [] pos) (pG i gs mf):=by
 obtain⟨t,pt,qt⟩:=ha;refine⟨_,Mz (nP:=[]) (E:=E0) Fn (hr.mono uT) hg d.mgx d.fn.kp d.bd .nil qN (ye (xm hN hv hd kT) pt he) oV he lW,λF0 B F H Y ρ' Z d Q rs e z=>?_⟩;obtain⟨pd,A7,h1,h2,h3⟩:=fu e;by_cases hc:nI pd=Â
 ·rw[if_pos hc]at h3;obtain⟨a0,_,hσ,_⟩:=hC _ _ _ _ _ _ _ rs (zp h1) hc;refine⟨_,hσ,qt F0 B F H Y Z A7 _ rs h2 λws F1 H1 x1 l2=>?_⟩;show tH X.K J 0 m mf ((V.ref a0::ws)++[]) H1 Q E0;rw[dU];exact MX hC rs x1 (zp h1) hc hσ l2 (hn _ _ h2) h3 z
 ·rw[if_neg hc]at h3;cases h3
def k7 (i c0:Nat)(m:Str)(gs:Env->Option (List D))(mf:List D->Option D):EM:=λY=>(M i Y).bind λp=>(gs Y).bind λes=>match p with
 |.obj c ns _=>if c=c0/\ns.contains m=Ã then(mf (p::es)).bind (BJ i Y)else G
 |_=>G
theorem wz {gs:Env->Option (List D)}{mm qn:Str}(hC:pC X.K J S i)(c:nY X.K<|J c0)(d:Dm X.K (J c0) mm qn Hb ps fa fd)(Fn:dR X.prog X.w X.K X.mg X.base fQ kk fa fd ps<|tH X.K J 0 m mf)(hr:gu kq X.A)(hn:∀Y O,gs Y=U O->O.length=m)(ha:E5 X J S (e::es) gs)(uT:kk<=kq:=by decide)
  (hN:X.N[i]?=U s:=by rfl) (hv:rZ X.env.scope s:=by walk_at "v1") (hd:kW s:=by decide) (kT:sU s:=by decide)
  (lE:SE X e es:=by rfl) (lW:pW X pos es:=by rfl)
  (ht:eW (.Call (.Attribute (.Name s p1) mm fL) (e::es) [] pos) X.env=(do
   let ov ← eW (.Name s p1) X.env
   kN fL.atName
   let(f,first) ← ir [ov] (lD ov mm pl)
   mS pos f first (i8 pos<|dJ (e::es) X.env) (i9 pos<|fY [] X.env)):=by rfl) :
  XM X J S (.Call (.Attribute (.Name s p1) mm fL) (e::es) [] pos) (k7 i c0 mm gs mf):=by
 obtain⟨t,pt,qt⟩:=ha;refine⟨_,Qw (nP:=[]) (E:=E0) (xm hN hv hd kT) c d.me Fn (hr.mono uT) d.bd .nil qN pt lE lW ht,λF0 B F H Y ρ' Z d Q rs e z=>?_⟩;obtain⟨pd,A7,h1,h2,h3⟩:=fu e;cases pd with
 |obj c ns O=>
  dsimp only at h3;by_cases hz:c=c0/\ns.contains mm=Ã
  ·rw[if_pos hz]at h3;obtain⟨rfl,hz⟩:=hz;obtain⟨a0,_,hσ,oa,_⟩:=hC _ _ _ _ _ _ _ rs (zp h1) rfl;obtain⟨a,dx,vs,fr,e1,_,hF,hH,hl,ol⟩:=oa.obj_inv;cases e1;refine⟨_,hσ,a0,dx,_,rfl,hH,IL (vs:=vs) hz,qt F0 B F H Y Z A7 _ rs h2 λws F1 H1 x1 l2=>?_⟩;show tH X.K J 0 m mf (V.ref a0::(ws++[])) H1 Q E0;rw[dU];exact MX hC rs x1 (zp h1) rfl hσ l2 (hn _ _ h2) h3 z
  ·rw[if_neg hz]at h3;cases h3
 |_=>cases h3
def DL (X:Cx)(J:Nat->cN)(m:Nat)(K':List<|Str×cJ)(tb:List<|Str×(List D->Option D)):Prop:=∀k mf,tb.lookup k=U mf->∃f kk fd ps,K'.lookup k=U (.ref f)/\dR X.prog X.w X.K X.mg X.base fQ kk f fd ps (tH X.K J 0 m mf)/\gu kk X.A/\fU X.K (.ref f)=Â/\gM X.K fd ps []
theorem Λ:DL X J m K' []:=λk mf h=>by cases h
theorem w6 {tb:List (Str×(List D->Option D))}{k:Str}(hl:K'.lookup k=U (.ref fa))(d:iX X.K X.mg x Hb ps fa fd)(Fn:dR X.prog X.w X.K X.mg X.base fQ kk fa fd ps<|tH X.K J 0 m mf)(hr:gu kq X.A)(t:DL X J m K' tb)(uT:kk<=kq:=by decide):DL X J m K' ((k,mf)::tb):=λk' UB h=>by
 rw[df]at h;cases e:k'==k with
 |true=>rw[e]at h;cases h;rw[eq_of_beq e];exact⟨fa,kk,fd,ps,hl,Fn,hr.mono uT,d.fn.kp,d.bd⟩
 |false=>rw[e]at h;exact t k' UB h
def sD (i:Nat)(f:EF)(gs:Env->Option (List D))(tb:List<|Str×(List D->Option D)):EM:=λY=>(f Y).bind λk=>match k with
 |.str z=>(tb.lookup z).bind λmf=>pG i gs mf Y
 |_=>G
theorem zu4 {gs:Env->Option (List D)}{da:cN}{tb:List (Str×(List D->Option D))}(hC:pC X.K J S i)(K:KD X.K X.w X.mg x da K')(hT:DL X J m K' tb)(hk:XE X J S n c f)(hn:∀Y O,gs Y=U O->O.length=m)(ha:E5 X J S es gs)(hg:Gl X x:=by rfl)(hs:yS c:=by exactλ_ _=>rfl)
  (hN:X.N[i]?=U s:=by rfl) (hv:rZ X.env.scope s:=by walk_at "v1") (hd:kW s:=by decide) (kT:sU s:=by decide)
  (oV:kW x:=by decide) (he:dJ (.Name s p1::es) X.env=(Ã,eW (.Name s p1) X.env)::dJ es X.env:=by rfl) (lW:pW X pos es:=by rfl) :
  XM X J S (.Call (.Subscript (.Name x p2) c p3) (.Name s p1::es) [] pos) (sD i f gs tb):=by
 obtain⟨t,pt,qt⟩:=ha;obtain⟨tk,UP,UT⟩:=hk;refine⟨_,ž (F:=λk f sp=>∃mf,tb.lookup k=U mf/\K'.lookup k=U (.ref f)/\sp=tH X.K J 0 m mf) (E:=E0) K (λk f sp ⟨mf,h1,h2,h3⟩=>?_) qN hg UP hs (ye (xm hN hv hd kT) pt he) oV he lW,λF0 B F H Y ρ' Z d Q rs e z=>?_⟩
 ·obtain⟨f',kk,fd,ps,q1,q2,q3,q4,q5⟩:=hT k mf h1;rw[h2]at q1;cases q1;rw[h3];exact⟨kk,fd,ps,q2,q3,q4,q5⟩
 ·obtain⟨y,h1,h2⟩:=c9 e;cases y with
  |str zz=>
   obtain⟨mf,h3,h4⟩:=c9 h2;obtain⟨f',kk,fd,ps,q1,q2,q3,q4,q5⟩:=hT zz mf h3;refine UT F0 B F H Y Z _ _ rs h1 λv F1 H1 x1 l1=>⟨zz,f',_,l1.str,q1,⟨mf,h3,q1,rfl⟩,?_⟩;have qO:=rs.ext x1;obtain⟨pd,A7,g1,g2,g3⟩:=fu h4;by_cases hc:nI pd=Â
   ·rw[if_pos hc]at g3;obtain⟨a0,_,hσ,_⟩:=hC _ _ _ _ _ _ _ qO (zp g1) hc;refine⟨_,hσ,qt F0 B F1 H1 Y Z A7 _ qO g2 λws F2 H2 x2 l2=>?_⟩;exact MX hC qO x2 (zp g1) hc hσ l2 (hn _ _ g2) g3 z
   ·rw[if_neg hc]at g3;cases g3
  |_=>cases h2
theorem MI (he:XM X J S e gm):xG X J S [.Return (U e) pos] gm:=by obtain⟨t,pt,qt⟩:=he;exact⟨_,Hr<|u9 pt,λF0 B F H Y ρ' Z d E rs e z=>qt F0 B F H Y ρ' Z d _ rs e λv F' H' r l=>z v Z F' H' r l⟩
theorem YX {lo hi:Option Expr}{pl ph:PF}{p1}(he:XM X J S e gm)(hl:XP X J S lo pl)(hh:XP X J S hi ph):XM X J S (.Subscript e (.Slice lo hi G p1) pos) (λY=>(gm Y).bind λr=>(pl r.2).bind λl=>(ph r.2).bind λh=>(uC r.1 l h).bind λd=>U (d,r.2)):=by
 obtain⟨t,pt,qt⟩:=he;obtain⟨t1,zP,zQ⟩:=hl;obtain⟨t2,vY,wB⟩:=hh;refine⟨_,PR ŭ pt zP vY,λF0 B F H Y ρ' Z r Q rs e w=>?_⟩;obtain⟨⟨d,ρ1⟩,h1,h2⟩:=c9 e;obtain⟨l,hh,g2,h3,h4⟩:=fu h2;obtain⟨d',h5,h6⟩:=c9 h4;cases h6;refine qt F0 B F H Y ρ1 Z d _ rs h1 λv F1 H1 r1 l1=>?_;refine zQ F0 B F1 H1 ρ1 Z l _ r1 g2 λF2 H2 x2=>?_;refine wB F0 B F2 H2 ρ1 Z hh _ (r1.ext x2) h3 λF3 H3 x3=>?_;cases d with
 |str y=>
  have h5:(if y.length<=16777216 then U (D.str<|Txt.slice y l hh)else G)=U r:=h5;by_cases hz:y.length<=16777216
  ·rw[if_pos hz]at h5;cases h5;cases l1;exact⟨y,rfl,hz,w _ F3 H3 (r1.ext<|x2.trans x3)<|.str _⟩
  ·rw[if_neg hz]at h5;cases h5
 |_=>cases h5
theorem QI {op:Aw}{o:D->D->Option D}(ho:lU X (eX op) r)(hs:sV X.K J 0 m 0 r o)(ha:XM X J S a gm)(hb:XE X J S m b g)(hm:f9 op b=Ã):XM X J S (.Compare a [op] [b] pos) (λY=>(gm Y).bind λr=>(g r.2).bind λy=>(o r.1 y).bind λd=>U (d,r.2)):=by obtain⟨ta,pa,qa⟩:=ha;obtain⟨tb,pb,qb⟩:=hb;refine⟨_,Qu ho pa pb hm,λF0 B F H Y ρ' Z d Q rs e w=>?_⟩;obtain⟨⟨d1,ρ1⟩,h1,h2⟩:=c9 e;obtain⟨d2,h3,h4⟩:=c9 h2;obtain⟨d',h5,h6⟩:=c9 h4;cases h6;refine qa F0 B F H Y ρ1 Z d1 _ rs h1 λx F1 H1 r1 l1=>?_;refine qb F0 B F1 H1 ρ1 Z d2 _ r1 h3 λy F2 H2 x2 l2=>?_;exact hs F2 H2 x y d1 d2 _ _ x2.fh (Dt.mono x2.ff l1) l2 h5 λv F3 H3 x3 l=>w v F3 H3 (r1.ext<|x2.trans x3) l
theorem zu5 (he:XM X J S e gm):XS X J S 0 (.Return (U e) pos) (λY=>(gm Y).bind λr=>U<|.rt r.1):=by obtain⟨t,pt,qt⟩:=he;refine⟨_,u9 pt,λF0 B F H Y Z o E rs e z=>?_⟩;obtain⟨⟨d,ρ'⟩,h1,h2⟩:=c9 e;cases h2;exact qt F0 B F H Y ρ' Z d _ rs h1 λv F' H' r l=>z v F' H' [] r.f0 r.bh r.fh r.nf (Ow.zero l) dZ λa z=>(by cases z)
abbrev BM:=Env->Option (Bool×Env)
def Co (X:Cx)(J:Nat->cN)(S:List Mo)(e:Expr)(g:BM):Prop:=∃t,PT X e t/\∀(F0 B F H:Hp) (Y ρ':Env) (Z:St) (b:Bool) (Q:Bool->Hp->Prop),RS X.K J F0 B S F H Y Z->g Y=U (b,ρ')->(∀F' H',RS X.K J F0 B S F' H' ρ' Z->Q b H')->t Z H Q
def DZ (X:Cx)(J:Nat->cN)(S:List Mo)(e:Expr)(g:BM):Prop:=∃t,PW X e t/\∀(F0 B F H:Hp) (Y ρ':Env) (Z:St) (b:Bool) (Q:Bool->Hp->Prop),RS X.K J F0 B S F H Y Z->g Y=U (b,ρ')->(∀F' H',RS X.K J F0 B S F' H' ρ' Z->Q b H')->t Z H Q
def mT (p:BF):BM:=λY=>(p Y).bind λb=>U (b,Y)
def GL (p q:BM):BM:=λY=>(p Y).bind λr=>if r.1=Â then U (Â,r.2)else q r.2
def uV (o:D->D->Option D)(f:EM)(g:EF):BM:=λY=>(f Y).bind λr=>(g r.2).bind λy=>(o r.1 y).bind λd=>(Cr d).bind λb=>U (b,r.2)
theorem Κ (h:XT X J S e p):Co X J S e (mT p):=by obtain⟨t,pt,qt⟩:=h;refine⟨t,pt,λF0 B F H Y ρ' Z b Q rs e z=>?_⟩;obtain⟨b',h1,h2⟩:=c9 e;cases h2;exact qt F0 B F H Y Z _ _ rs h1 λF' H' x=>z F' H'<|rs.ext x
theorem DZ.t {g:BM}(h:DZ X J S e g):Co X J S e g:=by obtain⟨t,pt,qt⟩:=h;exact⟨t,pt.pt,qt⟩
theorem QJ {g:BM}(ha:Co X J S a g):DZ X J S (.BoolOp .Or [a] pos) g:=by obtain⟨t,pt,qt⟩:=ha;exact⟨t,Rm pt,qt⟩
theorem RG {Î:List Expr}{g1 g2:BM}(ha:Co X J S a g1)(hb:DZ X J S (.BoolOp .Or (b::Î) pos) g2):DZ X J S (.BoolOp .Or (a::b::Î) pos) (GL g1 g2):=by
 obtain⟨t,pt,qt⟩:=ha;obtain⟨u,pu,qu⟩:=hb;refine⟨_,RZ pt pu,λF0 B F H Y ρ' Z r Q rs e w=>?_⟩;obtain⟨⟨x,ρ1⟩,h1,h2⟩:=c9 e;refine qt F0 B F H Y ρ1 Z x _ rs h1 λF1 H1 r1=>?_;cases x with
 |true=>rw[if_pos rfl]at h2 ⊢;cases h2;exact w F1 H1 r1
 |false=>rw[if_neg cZ]at h2 ⊢;exact qu F0 B F1 H1 ρ1 ρ' Z r _ r1 h2 w
theorem j6 {op:Aw}{o:D->D->Option D}(ho:lU X (eX op) r)(hs:sV X.K J 0 m k r o)(ha:XM X J S a gm)(hb:XE X J S m b g)(hm:f9 op b=Ã):Co X J S (.Compare a [op] [b] pos) (uV o gm g):=by obtain⟨ta,pa,qa⟩:=ha;obtain⟨tb,pb,qb⟩:=hb;refine⟨_,Qv ho pa pb hm,λF0 B F H Y ρ' Z b Q rs e w=>?_⟩;obtain⟨⟨d1,ρ1⟩,h1,h2⟩:=c9 e;obtain⟨d2,h3,h4⟩:=c9 h2;obtain⟨d,h5,h6⟩:=c9 h4;obtain⟨b',h7,h8⟩:=c9 h6;cases h8;rw[vg h7]at h5;refine qa F0 B F H Y ρ1 Z d1 _ rs h1 λx F1 H1 r1 l1=>?_;refine qb F0 B F1 H1 ρ1 Z d2 _ r1 h3 λy F2 H2 x2 l2=>?_;exact hs F2 H2 x y d1 d2 _ _ x2.fh (Dt.mono x2.ff l1) l2 h5 λv F3 H3 x3 l=>⟨b,l.bl,w F3 H3<|r1.ext<|x2.trans x3⟩
def t9 (p:BM)(u w:SF):SF:=λY=>(p Y).bind λr=>if r.1=Â then u r.2 else w r.2
theorem qz {B8:List eo}{g:BM}(hc:Co X J S c g)(h1:wM X J S rk Fl u)(h2:wM X J S rk B8 w):XS X J S rk (.If c Fl B8 pos) (t9 g u w):=by
 obtain⟨t,pt,qt⟩:=hc;obtain⟨t1,zP,zQ⟩:=h1;obtain⟨t2,vY,wB⟩:=h2;refine⟨_,Ju pt zP vY,λF0 B F H Y Z o E rs e z=>?_⟩;obtain⟨⟨x,ρ1⟩,h1,h2⟩:=c9 e;refine qt F0 B F H Y ρ1 Z x _ rs h1 λF1 H1 r1=>?_;cases x with
 |true=>rw[if_pos rfl]at h2 ⊢;exact zQ F0 B F1 H1 ρ1 Z o E r1 h2 z
 |false=>rw[if_neg cZ]at h2 ⊢;exact wB F0 B F1 H1 ρ1 Z o E r1 h2 z
theorem zqm {qn:Str}(L':Dc X.K X.mg x<|J c0)(d:Dm X.K (J c0) "__init__" qn Hb ps fa fd)(Fn:dR X.prog X.w X.K X.mg X.base fQ kk fa fd ps<|yQ X.K J cs [] mi)(hr:gu kq X.A)(Bv:c0∈cs:=by decide)(uT:kk+1<=kq:=by decide)(hg:Gl X x:=by rfl)(oV:kW x:=by decide) :
  XO X J S 1 (.Call (.Name x pp) [] [] pos) (λ_=>mi c0 []):=by
 refine⟨_,ZA (nP:=[]) (E:=E0) ⟨L'.mks,d.me.at_,d.me.fn,L'.kp⟩ Fn (hr.mono uT) hg L'.mgx d.bd .nil qN oV,λF0 B F H Y Z r Q rs e w y dy hy Ka AJ=>?_⟩;have sH:ej H (A8 (upd (upd H dy<|.own y) y<|.ins (J c0) dy []) y):=λb o h=>by have n1:b≠y:=z7 h hy;rw[EW n1,zo n1,zo<|z7 h Ka];exact h
 refine⟨F,c0,[],r,y,dy,[],Bv,rfl,zu,rs.fh.free hy,rs.fh.trans<|sH.trans<|IN _ _,.nil,e,λF' H' fq s1 s2 s3 s4 ow nq hq=>⟨rfl,?_⟩⟩;refine w _ F' H' fq ⟨s1,sH.trans s2,s3,λb o h t n=>s4 b o (sH _ _ h) t n⟩ ow nq λb z=>?_;rcases hq b z with rfl|yG
 ·exact hy
 ·exact(sH.trans<|IN _ _).free yG
end
def DQ (K':List<|Str×cJ):List (Str×cN)->Prop
 |[]=>True
 |(k,f)::t=>K'.lookup k=U (.ref f)/\DQ K' t
def KF (K:cL)(w:d8)(mg:Str->Option cJ)(x:Str)(fm:List<|Str×cN):Prop:=∃da K',KD K w mg x da K'/\DQ K' fm
section
variable {K:Frag}{h:c7}{da:cN}{es:Array DictEntry}{ep:Nat}{w:d8}{fm:List (Str×cN)}{u:cJ}
theorem Ğ (X:K.In h)(V':h.Ns eI mg)(a:nsIn K eI x=U (U u))(q:KC K d u):∃u,mg x=U u/\KC K d u:=⟨u,mg_of X V' a,q⟩
theorem Ĝ (X:K.In h)(V':h.Ns eI mg)(a:nsIn K eI x=U (U<|.ref da))(l:K.lookup da=U ⟨.type "dict",G,.dict es ep,#[]⟩)(sy:(da==gK)=Ã)(e:EL w es.toList K')(q:KL K ts K'):KG K w mg x ts:=⟨da,K',⟨mg_of X V' a,sy,es,ep,l,e⟩,q⟩
theorem ĝ (X:K.In h)(V':h.Ns eI mg)(a:nsIn K eI x=U (U<|.ref da))(l:K.lookup da=U ⟨.type "dict",G,.dict es ep,#[]⟩)(sy:(da==gK)=Ã)(e:EL w es.toList K')(q:DQ K' fm):KF K w mg x fm:=⟨da,K',⟨mg_of X V' a,sy,es,ep,l,e⟩,q⟩
end
end
section
variable {a b c d e f g h i j k l m n o p q r s t x:Option D}{z:Env}
@[simp 2000] theorem ev0:M 0 (a::z)=a:=rfl
@[simp 2000] theorem es0:gh (a::z) 0 x=x::z:=rfl
@[simp 2000] theorem ev1:M 1 (a::b::z)=b:=rfl
@[simp 2000] theorem es1:gh (a::b::z) 1 x=a::x::z:=rfl
@[simp 2000] theorem ev2:M 2 (a::b::c::z)=c:=rfl
@[simp 2000] theorem es2:gh (a::b::c::z) 2 x=a::b::x::z:=rfl
@[simp 2000] theorem ev3:M 3 (a::b::c::d::z)=d:=rfl
@[simp 2000] theorem es3:gh (a::b::c::d::z) 3 x=a::b::c::x::z:=rfl
@[simp 2000] theorem ev4:M 4 (a::b::c::d::e::z)=e:=rfl
@[simp 2000] theorem es4:gh (a::b::c::d::e::z) 4 x=a::b::c::d::x::z:=rfl
@[simp 2000] theorem ev5:M 5 (a::b::c::d::e::f::z)=f:=rfl
@[simp 2000] theorem es5:gh (a::b::c::d::e::f::z) 5 x=a::b::c::d::e::x::z:=rfl
@[simp 2000] theorem ev6:M 6 (a::b::c::d::e::f::g::z)=g:=rfl
@[simp 2000] theorem es6:gh (a::b::c::d::e::f::g::z) 6 x=a::b::c::d::e::f::x::z:=rfl
@[simp 2000] theorem ev7:M 7 (a::b::c::d::e::f::g::h::z)=h:=rfl
@[simp 2000] theorem es7:gh (a::b::c::d::e::f::g::h::z) 7 x=a::b::c::d::e::f::g::x::z:=rfl
@[simp 2000] theorem ev8:M 8 (a::b::c::d::e::f::g::h::i::z)=i:=rfl
@[simp 2000] theorem es8:gh (a::b::c::d::e::f::g::h::i::z) 8 x=a::b::c::d::e::f::g::h::x::z:=rfl
@[simp 2000] theorem ev9:M 9 (a::b::c::d::e::f::g::h::i::j::z)=j:=rfl
@[simp 2000] theorem es9:gh (a::b::c::d::e::f::g::h::i::j::z) 9 x=a::b::c::d::e::f::g::h::i::x::z:=rfl
@[simp 2000] theorem Td:M 10 (a::b::c::d::e::f::g::h::i::j::k::z)=k:=rfl
@[simp 2000] theorem S0:gh (a::b::c::d::e::f::g::h::i::j::k::z) 10 x=a::b::c::d::e::f::g::h::i::j::x::z:=rfl
@[simp 2000] theorem Te:M 11 (a::b::c::d::e::f::g::h::i::j::k::l::z)=l:=rfl
@[simp 2000] theorem S4:gh (a::b::c::d::e::f::g::h::i::j::k::l::z) 11 x=a::b::c::d::e::f::g::h::i::j::k::x::z:=rfl
@[simp 2000] theorem Tf:M 12 (a::b::c::d::e::f::g::h::i::j::k::l::m::z)=m:=rfl
@[simp 2000] theorem S5:gh (a::b::c::d::e::f::g::h::i::j::k::l::m::z) 12 x=a::b::c::d::e::f::g::h::i::j::k::l::x::z:=rfl
@[simp 2000] theorem Tg:M 13 (a::b::c::d::e::f::g::h::i::j::k::l::m::n::z)=n:=rfl
@[simp 2000] theorem S6:gh (a::b::c::d::e::f::g::h::i::j::k::l::m::n::z) 13 x=a::b::c::d::e::f::g::h::i::j::k::l::m::x::z:=rfl
@[simp 2000] theorem Th:M 14 (a::b::c::d::e::f::g::h::i::j::k::l::m::n::o::z)=o:=rfl
@[simp 2000] theorem S7:gh (a::b::c::d::e::f::g::h::i::j::k::l::m::n::o::z) 14 x=a::b::c::d::e::f::g::h::i::j::k::l::m::n::x::z:=rfl
@[simp 2000] theorem Ti:M 15 (a::b::c::d::e::f::g::h::i::j::k::l::m::n::o::p::z)=p:=rfl
@[simp 2000] theorem S8:gh (a::b::c::d::e::f::g::h::i::j::k::l::m::n::o::p::z) 15 x=a::b::c::d::e::f::g::h::i::j::k::l::m::n::o::x::z:=rfl
@[simp 2000] theorem Tj:M 16 (a::b::c::d::e::f::g::h::i::j::k::l::m::n::o::p::q::z)=q:=rfl
@[simp 2000] theorem S9:gh (a::b::c::d::e::f::g::h::i::j::k::l::m::n::o::p::q::z) 16 x=a::b::c::d::e::f::g::h::i::j::k::l::m::n::o::p::x::z:=rfl
@[simp 2000] theorem Tl:M 17 (a::b::c::d::e::f::g::h::i::j::k::l::m::n::o::p::q::r::z)=r:=rfl
@[simp 2000] theorem Ta:gh (a::b::c::d::e::f::g::h::i::j::k::l::m::n::o::p::q::r::z) 17 x=a::b::c::d::e::f::g::h::i::j::k::l::m::n::o::p::q::x::z:=rfl
@[simp 2000] theorem Tn:M 18 (a::b::c::d::e::f::g::h::i::j::k::l::m::n::o::p::q::r::s::z)=s:=rfl
@[simp 2000] theorem Tb:gh (a::b::c::d::e::f::g::h::i::j::k::l::m::n::o::p::q::r::s::z) 18 x=a::b::c::d::e::f::g::h::i::j::k::l::m::n::o::p::q::r::x::z:=rfl
@[simp 2000] theorem To:M 19 (a::b::c::d::e::f::g::h::i::j::k::l::m::n::o::p::q::r::s::t::z)=t:=rfl
@[simp 2000] theorem Tc:gh (a::b::c::d::e::f::g::h::i::j::k::l::m::n::o::p::q::r::s::t::z) 19 x=a::b::c::d::e::f::g::h::i::j::k::l::m::n::o::p::q::r::s::x::z:=rfl
end
section
variable {fd:cT}
def AL (p:BM):BM:=λY=>(p Y).bind λr=>U (!r.1,r.2)
theorem Mt {g:BM}(ha:Co X J S a g):Co X J S (.UnaryOp .Not a pos) (AL g):=by obtain⟨t,pt,qt⟩:=ha;refine⟨_,Rn pt,λF0 B F H Y ρ' Z r Q rs e w=>?_⟩;obtain⟨⟨x,ρ1⟩,h1,h2⟩:=c9 e;cases h2;exact qt F0 B F H Y ρ1 Z x _ rs h1 λF1 H1 r1=>w F1 H1 r1
def mB (f:EM):BM:=λY=>(f Y).bind λr=>(Cr r.1).bind λb=>U (b,r.2)
theorem Mu (he:XM X J S e gm)(hi:∀whole,yD e X.env whole=(do let v ← whole;kN e.pos;ir [v] (truthy v)):=by intro _;rfl):Co X J S e (mB gm):=by obtain⟨t,pt,qt⟩:=he;refine⟨_,Rl pt hi,λF0 B F H Y ρ' Z b Q rs e w=>?_⟩;obtain⟨⟨d,ρ1⟩,h1,h2⟩:=c9 e;obtain⟨b',h3,h4⟩:=c9 h2;cases h4;have h3:Cr d=U b:=h3;rw[vg h3]at h1;exact qt F0 B F H Y ρ1 Z _ _ rs h1 λv F' H' r l=>⟨b,Al.bl (n:=0) (V':=H') l,w F' H' r⟩
def xI (gm:EM)(gs:Env->Option (List D))(mf:List D->Option D):EM:=λY=>(gm Y).bind λr=>(gs r.2).bind λes=>(mf (r.1::es)).bind λd=>U (d,r.2)
theorem P0 {gs:Env->Option (List D)}(d:iX X.K X.mg x Hb ps fa fd)(Fn:dR X.prog X.w X.K X.mg X.base fQ kk fa fd ps<|iP X.K J (n::ns) rk mf)(hr:gu kq X.A)(ha:XM X J S a gm)(hb:XA X J S es ns gs)(uT:kk<=kq:=by decide)(hg:Gl X x:=by rfl)
  (oV:kW x:=by decide) (he:SE X a es:=by rfl) (lW:pW X pos es:=by rfl) :
  XM X J S (.Call (.Name x pp) (a::es) [] pos) (xI gm gs mf):=by
 obtain⟨t1,zP,zQ⟩:=ha;obtain⟨t,pt,_,qt⟩:=hb;refine⟨_,Mz (nP:=[]) (E:=E0) Fn (hr.mono uT) hg d.mgx d.fn.kp d.bd .nil qN (ye zP pt he) oV he lW,λF0 B F H Y ρ' Z d Q rs e z=>?_⟩;obtain⟨⟨d1,ρ1⟩,h1,h2⟩:=c9 e;obtain⟨A7,h3,h4⟩:=c9 h2;obtain⟨d',h5,h6⟩:=c9 h4;cases h6;refine zQ F0 B F H Y ρ1 Z d1 _ rs h1 λv1 F1 H1 r1 l1=>?_;refine qt F0 B F1 H1 ρ1 Z A7 _ r1 h3 λws F2 H2 x2 l2=>?_;show iP X.K J (n::ns) rk mf ((v1::ws)++[]) H2 Q E0;rw[dU];exact⟨F2,d1::A7,_,x2.fh,.cons (Al.of<|Dt.mono x2.ff l1) l2,h5,λv F3 H3 fp x3 ow nd hf=>by obtain⟨F4,x4,dt⟩:=ow.freeze x3 hf;exact z v F4 H3 (r1.ext<|x2.trans x4) dt⟩
end
def yY:EF:=λ_=>G
theorem P1:XE X J S n e yY:=⟨λ_ _ _=>False,λ_ _ _ _ _ _ h=>h.elim,λ_ _ _ _ _ _ _ _ _ h _=>nomatch h⟩
def zK (p:BF)(f g:EM):EM:=λY=>(p Y).bind λb=>if b=Â then f Y else g Y
theorem RH {f g:EM}(hc:XT X J S c p)(h1:xG X J S Fl f)(h2:xG X J S Î g):xG X J S (.If c Fl [] pos::Î) (zK p f g):=by
 obtain⟨t,pt,qt⟩:=hc;obtain⟨t1,zP,zQ⟩:=h1;obtain⟨t2,vY,wB⟩:=h2;refine⟨_,L7 (Ju pt zP Mx) vY,λF0 B F H Y ρ' Z d E rs e z=>?_⟩;obtain⟨x,e1,L⟩:=c9 e;refine qt F0 B F H Y Z x _ rs e1 λF1 H1 x1=>?_;cases x with
 |true=>rw[if_pos rfl]at L ⊢;exact zQ F0 B F1 H1 Y ρ' Z d _ (rs.ext x1) L z
 |false=>rw[if_neg cZ]at L ⊢;exact wB F0 B F1 H1 Y ρ' Z d E (rs.ext x1) L z
theorem ji {α:Type}{x:Str}{v:α}:∀{ns:List Str} {vs:List α},ns.length=vs.length->ns.contains x=Â->(ns.zip<|ku x v ns vs).lookup x=U v
 |[],_,_,h=>by cases h
 |_::_,[],h,_=>by cases h
 |n::ns,w::vs,h,hc=>by
  unfold ku;by_cases e:n=x
  ·subst e;rw[if_pos rfl,eh,df,beq_self_eq_true]
  ·rw[if_neg e,eh,df,beq_eq_false_iff_ne.mpr<|Ne.symm e];refine ji (by simpa using h) ?_;rw[iY,jC]at hc;exact hc.resolve_left λz=>e (eq_of_beq z).symm
theorem Px {α:Type}{x:Str}{v:α}:∀{ns:List Str} {vs:List α},(ns.zip vs).lookup x=U v->ku x v ns vs=vs
 |[],_,_=>by unfold ku;rfl
 |_::_,[],_=>by unfold ku;rfl
 |n::ns,w::vs,h=>by
  rw[eh,df]at h;unfold ku;by_cases e:n=x
  ·subst e;rw[beq_self_eq_true]at h;cases h;rw[if_pos rfl]
  ·rw[beq_eq_false_iff_ne.mpr<|Ne.symm e]at h;rw[if_neg e,Px h]
theorem P2 {α:Type}{x:Str}{v:α}:∀{ns:List Str} {vs:List α},(ns.zip vs).lookup x=U v->ns.contains x=Â
 |[],_,h=>by simp at h
 |_::_,[],h=>by simp at h
 |n::ns,w::vs,h=>by
  rw[eh,df]at h;rw[iY,jC];by_cases e:x=n
  ·exact .inl (by rw[e];exact beq_self_eq_true n)
  ·rw[beq_eq_false_iff_ne.mpr e]at h;exact .inr<|P2 h
theorem Py {α:Type}{x:Str}:∀{ns:List Str} {vs:List α},ns.contains x=Ã->(ns.zip vs).lookup x=G
 |[],_,_=>by simp
 |_::_,[],_=>by simp
 |n::ns,w::vs,h=>by rw[iY,qA]at h;rw[eh,df,h.1];exact Py h.2
def xV (i:Nat)(cs:List Nat)(f:EF):SF:=λY=>(f Y).bind λd=>(M i Y).bind λo=>match o,d with
 |.obj c ns O,.lst es=>if cs.contains c=Â/\ns.contains "puts"=Â/\ns.length<900 then U (.nx<|Y.set i<|U<|.obj c ns<|ku "puts" (.cel es) ns O)else G
 |_,_=>G
theorem kY.own {ns:List Str}{vs:List V}{es:List D}{b:cN}(h1:(ns.zip O).lookup ("puts":Str)=U (.cel es))(h2:(ns.zip vs).lookup ("puts":Str)=U (.ref b))(h3:F b=G)(h4:H b=U (.lst us))(h5:Pr (Dt K J F) es us):kY K J F H ns O vs [b]:=by unfold kY;rw[h1];exact⟨b,us,h2,rfl,h3,h4,h5⟩
theorem zu6 (hC:pC X.K J S i)(hc:∀c∈cs,nY X.K (J c)/\fP X.K (J c) "puts")(he:XO X J S 1 e f)(hN:X.N[i]?=U s:=by rfl)(hv:rZ X.env.scope s:=by walk_at "v1")(hd:kW s:=by decide)
  (kT:sU s:=by decide) (hs:gk e (U<|.Attribute (.Name s p1) "puts" pos') pos.line X.env=pure Ã:=by rfl):XS X J S rk (.Assign [.Attribute (.Name s p1) "puts" pos'] e pos) (xV i cs f):=by
 obtain⟨t,pt,qt⟩:=he;refine⟨_,Jh (xm hN hv hd kT) pt hs,λF0 B F H Y Z o E rs e z=>?_⟩;obtain⟨d,h1,h2⟩:=c9 e;obtain⟨ob,h3,h4⟩:=c9 h2;refine qt F0 B F H Y Z d _ rs h1 λy F1 H1 fp x1 oe ne hf=>?_;cases ob with
 |obj c ns O=>
  cases d with
  |lst es=>
   dsimp only at h4;by_cases hz:cs.contains c=Â/\ns.contains "puts"=Â/\ns.length<900
   ·rw[if_pos hz]at h4;cases h4;obtain⟨xa,fq,hσ,ow,nq,hB,put⟩:=hC _ _ _ _ _ _ _ rs (zp h3) rfl;obtain⟨a,dx,vs,fr,e1,⟨fb,rfl,cf⟩,hF,hH,hl,ol⟩:=ow.obj_inv;cases e1;have Cw:O.length=vs.length:=ol.length;have ol:Pr (Dt X.K J F) O vs:=ol.pr λ_ _ _ _ q=>q.1;obtain⟨b,us,f0,rfl,rfl,bF,bH,bl⟩:=oe.lst_inv;have e0:=bl.nil0;subst e0;have hb:H b=G:=hf b cK;have nb:b≠xa:=λe=>by rw[e,hH]at hb;cases hb
    have hh:=hc c (by simpa using hz.1);have hX:=x1.hh _ _ hH;have fX:F1 xa=G:=x1.nf _ _ hH nofun hF;refine⟨_,hσ,xa,_,dx,_,rfl,hX,hh.1,hh.2,by rw[ij,←hl,i7];lia,?_⟩;rw[IP hl hz.2.1];refine z Z F1 _ (put F1 _ _ (xa::([b]++[])) x1.ff (λx o h nx=>?_) (λx o h=>?_) (λx o h _ t hn=>x1.nf x o h t hn) (.inr<|Ac.obj (vs:=ku "puts" (.ref b) ns vs) fX zu (by rw[Mh];exact hl) (kY.own (ji (by rw[Cw,hl]) hz.2.1) (ji hl hz.2.1) bF (by rw[zo nb];exact bH)<|bl.pr λ_ _ _ _ q=>q.1)<|iH.ofPr<|(IZ .cel ol).mono λ_ _ q=>⟨q.mono x1.ff,rfl⟩) ?_ λx z=>?_)
    ·rw[zo<|λe=>nx<|by rw[e];exact cK];exact x1.hh _ _ h
    ·rw[zo<|λe=>by rw[e,fX]at h;cases h];exact x1.fh _ _ h
    ·simp[Ne.symm nb]
    ·simp at z;rcases z with rfl|rfl
     ·exact .inl cK
     ·exact .inr hb
   ·rw[if_neg hz]at h4;cases h4
  |_=>cases h4
 |_=>cases h4
def An (i:Nat)(cs:List Nat)(f:EF):SF:=λY=>(M i Y).bind λo=>(f Y).bind λd=>match o with
 |.obj c ns O=>match (ns.zip O).lookup ("puts":Str)with
  |some (.cel es)=>if cs.contains c=Â/\es.length<16777216 then U (.nx<|Y.set i<|U<|.obj c ns<|ku "puts" (.cel<|es++[d]) ns O)else G
  |_=>G
 |_=>G
theorem zu7 (hC:pC X.K J S i)(hc:∀c∈cs,nY X.K (J c)/\fP X.K (J c) "puts")(he:XE X J S 0 e f)(hN:X.N[i]?=U s:=by rfl)(hv:rZ X.env.scope s:=by walk_at "v1")(hd:kW s:=by decide)
  (kT:sU s:=by decide) (lE:SE X e []:=by rfl)
  (J2:mz (.Name s p1) "puts" X.env (eW (.Name s p1) X.env)=eW (.Name s p1) X.env:=by rfl)
  (kh:mz (.Attribute (.Name s p1) "puts" p2) "append" X.env (eW (.Attribute (.Name s p1) "puts" p2) X.env)=eW (.Attribute (.Name s p1) "puts" p2) X.env:=by rfl)
  (nF:Bm X eY [e]:=by rfl)
  (ki:(fL.endLine==eY.line)=Â:=by rfl) (iw:pW X eY []:=by rfl)
  (Bz:gk (.Call (.Attribute (.Attribute (.Name s p1) "puts" p2) "append" fL) [e] [] eY) G pos.line X.env=pure Ã:=by rfl) :
  XS X J S rk (.Expr (.Call (.Attribute (.Attribute (.Name s p1) "puts" p2) "append" fL) [e] [] eY) pos) (An i cs f):=by
 obtain⟨t,pt,qt⟩:=he;refine⟨_,IT (Ca PySem.F.plainAttrs_list PySem.F.slot_list_append PySem.F.type_list_append LP (MQ (xm hN hv hd kT) J2) (ye pt xx lE) kh nF ki lE iw) Bz,λF0 B F H Y Z o E rs e z=>?_⟩;obtain⟨ob,d,h1,h2,h3⟩:=fu e;cases ob with
 |obj c ns O=>
  dsimp only at h3;cases AI:(ns.zip O).lookup ("puts":Str)with
  |none=>rw[AI]at h3;cases h3
  |some d1=>
   rw[AI]at h3;cases d1 with
   |cel es=>
    dsimp only at h3;by_cases hz:cs.contains c=Â/\es.length<16777216
    ·rw[if_pos hz]at h3;cases h3;obtain⟨xa,fq,hσ,ow,nq,hB,put⟩:=hC _ _ _ _ _ _ _ rs (zp h1) rfl;obtain⟨a,dx,vs,fr,e1,⟨fb,rfl,cf⟩,hF,hH,hl,ol⟩:=ow.obj_inv;cases e1;have Cw:O.length=vs.length:=ol.length;have e0:=ol.nil0;subst e0;have ol:Pr (Dt X.K J F) O vs:=ol.pr λ_ _ _ _ q=>q.1;unfold kY at cf;rw[AI]at cf;obtain⟨b,us,c1,rfl,bF,bH,bl⟩:=cf;have hh:=hc c (by simpa using hz.1);have nb:b≠xa:=λe=>by simp[e]at nq
     refine⟨_,hσ,xa,_,dx,_,_,rfl,hH,hh.1,hh.2,c1,.inl ⟨rfl,_,iE.of bH⟩,qt F0 B F H Y Z d _ rs h2 λv2 F' H' x1 l=>?_⟩;have fX:F' xa=G:=x1.nf _ _ hH nofun hF;have Nn:F' b=G:=x1.nf _ _ bH nofun bF;refine⟨b,us,v2,rfl,rfl,x1.hh _ _ bH,by rw[←bl.length,dW];exact hz.2,?_⟩;refine z Z F' _ (put F' _ _ (xa::([b]++[])) x1.ff (λx o h nx=>?_) (λx o h=>?_) (λx o h _ t hn=>x1.nf x o h t hn) (.inr<|Ac.obj (vs:=vs) fX (by rw[zo<|Ne.symm nb];exact x1.hh _ _ hH) hl (kY.own (ji (by rw[Cw,hl])<|P2 AI) c1 Nn zu<|(bl.mono λ_ _ q=>q.mono x1.ff).append<|.cons l .nil)<|iH.ofPr ?_) (by simpa using nq) λx z=>.inl z)
     ·rw[zo<|λe=>nx<|by rw[e];simp];exact x1.hh _ _ h
     ·rw[zo<|λe=>by rw[e,Nn]at h;cases h];exact x1.fh _ _ h
     ·have:=IZ (f:="puts") (d:=.cel<|es++[d]) (y:=V.ref b) .cel (ns:=ns) ol;rw[Px c1]at this;exact this.mono λ_ _ q=>⟨q.mono x1.ff,rfl⟩
    ·rw[if_neg hz]at h3;cases h3
   |_=>cases h3
 |_=>cases h3
def AH (cs:List Nat):D->Option D
 |.obj c ns O=>if cs.contains c=Â then match (ns.zip O).lookup ("puts":Str)with
  |some (.cel es)=>U<|.lst es
  |some (.lst es)=>U<|.lst es
  |_=>G else G
 |_=>G
theorem Mv (hC:pC X.K J S i)(hc:∀c∈cs,nY X.K (J c)/\fP X.K (J c) "puts")(hN:X.N[i]?=U s:=by rfl)(hv:rZ X.env.scope s:=by walk_at "v1")(hd:kW s:=by decide)
  (kT:sU s:=by decide) (J2:mz (.Name s p1) "puts" X.env (eW (.Name s p1) X.env)=eW (.Name s p1) X.env:=by rfl):XE X J S 1 (.Attribute (.Name s p1) "puts" pos) (e1 (AH cs)<|M i):=by
 refine⟨_,MQ (xm hN hv hd kT) J2,λF0 B F H Y Z r Q rs e w=>?_⟩;obtain⟨ob,h1,h2⟩:=c9 e;cases ob with
 |obj c ns O=>
  unfold AH at h2;dsimp only at h2;by_cases hz:cs.contains c=Â
  ·rw[if_pos hz]at h2;obtain⟨xa,fq,hσ,ow,_⟩:=hC _ _ _ _ _ _ _ rs (zp h1) rfl;obtain⟨a,dx,vs,fr,e1,⟨fb,rfl,cf⟩,hF,hH,hl,ol⟩:=ow.obj_inv;cases e1;have ol:Pr (Dt X.K J F) O vs:=ol.pr λ_ _ _ _ q=>q.1;have hh:=hc c (by simpa using hz);cases AI:(ns.zip O).lookup ("puts":Str)with
   |none=>rw[AI]at h2;cases h2
   |some d1=>
    rw[AI]at h2;obtain⟨u,hu,du⟩:=uo ol AI;cases d1 with
    |cel es=>cases h2;unfold kY at cf;rw[AI]at cf;obtain⟨b,us,c1,rfl,bF,bH,bl⟩:=cf;exact⟨_,hσ,xa,_,dx,_,_,rfl,hH,hh.1,hh.2,c1,w _ F H (.refl rs.fh)<|.inr<|.lst bH bl⟩
    |lst es=>cases h2;exact⟨_,hσ,xa,_,dx,_,u,rfl,hH,hh.1,hh.2,hu,w u F H (.refl rs.fh)<|.inl du⟩
    |_=>cases h2
  ·rw[if_neg hz]at h2;cases h2
 |_=>cases h2
theorem zu8 (hc:∀c∈cs,nY X.K (J c)/\fP X.K (J c) "puts")(he:XE X J (.so x0::S) 0 e f)(hn:∀Y d,f Y=U d->∀es,d≠.cel es)(hN:X.N[0]?=U s:=by rfl)(hv:rZ X.env.scope s:=by walk_at "v1")(hd:kW s:=by decide)
  (kT:sU s:=by decide) (hs:gk e (U<|.Attribute (.Name s p1) "puts" pos') pos.line X.env=pure Ã:=by rfl):XS X J (.so x0::S) rk (.Assign [.Attribute (.Name s p1) "puts" pos'] e pos) (mP cs "puts" f):=by
 obtain⟨t,pt,qt⟩:=he;refine⟨_,Jh (xm hN hv hd kT) pt hs,λF0 B F H Y Z o E rs e z=>?_⟩;obtain⟨d,h1,h2⟩:=c9 e;obtain⟨ob,h3,h4⟩:=c9 h2;refine qt F0 B F H Y Z d _ rs h1 λy F1 H1 x1 l=>?_;have qO:=rs.ext x1;obtain⟨fq,hσ,ow,nq,hB,put⟩:=qO.pin (i:=0) rfl<|zp h3;refine⟨_,hσ,?_⟩;cases ob with
 |obj c ns O=>
  dsimp only at h4;by_cases hz:cs.contains c=Â/\ns.contains "puts"=Ã/\ns.length<900
  ·rw[if_pos hz]at h4;cases h4;obtain⟨a,dx,vs,fr,e1,⟨fb,rfl,cf⟩,hF,hH,hl,ol⟩:=ow.obj_inv;cases e1;have e0:=ol.nil0;subst e0;have Cw:O.length=vs.length:=ol.length;have ol:Pr (Dt X.K J F1) O vs:=ol.pr λ_ _ _ _ q=>q.1;have hh:=hc c (by simpa using hz.1);refine⟨x0,_,dx,_,rfl,hH,hh.1,hh.2,by rw[ij,←hl,i7];lia,?_⟩;rw[Mc hl hz.2.1];have Ea:((ns++[("puts":Str)]).zip<|O++[d]).lookup ("puts":Str)=U d:=by rw[BV<|hl.trans Cw.symm,List.lookup_append,Py hz.2.1];rfl
   refine z Z F1 _ (put F1 _ _ (x0::([]++[])) (.refl _) (λb o h ne=>by rw[zo<|λe=>ne<|by rw[e];exact cK];exact h) (λb o h=>?_) (λb o h _ _ hn=>hn) qO.nf (.inr<|Ac.obj (vs:=vs++[y]) hF zu (by simp[hl]) (kY.nil λes q=>?_)<|iH.ofPr<|(ol.append<|.cons l .nil).mono λ_ _ q=>⟨q,rfl⟩) (by simp) λb z=>.inl (by simp at z;rw[z];exact cK))
   ·rw[zo<|λe=>by rw[e,hF]at h;cases h];exact qO.fh _ _ h
   ·rw[Ea]at q;cases q;exact hn _ _ h1 es rfl
  ·rw[if_neg hz]at h4;cases h4
 |_=>cases h4
def t8:D->D->Option D
 |.str y,.str z=>if(z.length==0)=Ã/\y.length<=16777216 then U (.tup [.str (Txt.rpartition y z).1,.str (Txt.rpartition y z).2.1,.str (Txt.rpartition y z).2.2])else G
 |_,_=>G
theorem zqn (ho:XE X J S n o f)(he:XE X J S m e g)(lE:SE X e []:=by rfl)
  (kh:yO X o "rpartition":=by rfl)
  (nF:Bm X eY [e]:=by rfl)
  (ki:(fL.endLine==eY.line)=Â:=by rfl) (iw:pW X eY []:=by rfl) :
  XO X J S 1 (.Call (.Attribute o "rpartition" fL) [e] [] eY) (L t8 f g):=by
 obtain⟨ta,pa,qa⟩:=ho;obtain⟨tb,pb,qb⟩:=he;refine⟨_,Ca PySem.F.plainAttrs_str PySem.F.slot_str_rpartition PySem.F.type_str_rpartition ZN pa (ye pb xx lE) kh nF ki lE iw,λF0 B F H Y Z d Q rs e w=>?_⟩;obtain⟨d1,d2,h1,h2,h3⟩:=fu e;refine qa F0 B F H Y Z d1 _ rs h1 λv1 F1 H1 x1 l1=>?_;cases d1 with
 |str y=>
  cases d2 with
  |str z=>
   unfold t8 at h3;dsimp only at h3;by_cases hp:(z.length==0)=Ã/\y.length<=16777216
   ·rw[if_pos hp]at h3;cases h3;have q1:=Al.scal (F':=F1) l1 rfl;cases q1;refine⟨rfl,qb F0 B F1 H1 Y Z _ _ (rs.ext x1) h2 λv2 F2 H2 x2 l2=>?_⟩;have q2:=Al.scal (F':=F2) l2 rfl;cases q2;refine⟨y,z,rfl,rfl,hp.1,by rw[dW];exact hp.2,λp h0=>?_⟩;have x3:=kR.newS x2.fh h0<|.tup [.str (Txt.rpartition y z).1,.str (Txt.rpartition y z).2.1,.str (Txt.rpartition y z).2.2];exact w _ _ _ [] ((x1.trans x2).trans x3) (.inr<|.tup zu<|iH.ofPr<|.cons ⟨.str _,rfl⟩<|.cons ⟨.str _,rfl⟩<|.cons ⟨.str _,rfl⟩ .nil) dZ λa z=>(by cases z)
   ·rw[if_neg hp]at h3;cases h3
  |_=>cases h3
 |_=>cases h3
def CL (op:D->D->Option D)(gm:EM)(g:EF):EM:=λY=>(gm Y).bind λr=>(g r.2).bind λy=>(op r.1 y).bind λd=>U (d,r.2)
theorem zqo (ho:XM X J S o gm)(he:XE X J S m e g)(lE:SE X e []:=by rfl)
  (kh:yO X o "split":=by rfl)
  (nF:Bm X eY [e]:=by rfl)
  (ki:(fL.endLine==eY.line)=Â:=by rfl) (iw:pW X eY []:=by rfl) :
  XM X J S (.Call (.Attribute o "split" fL) [e] [] eY) (CL nL gm g):=by
 obtain⟨ta,pa,qa⟩:=ho;obtain⟨tb,pb,qb⟩:=he;refine⟨_,Ca PySem.F.plainAttrs_str PySem.F.slot_str_split PySem.F.type_str_split Qc pa (ye pb xx lE) kh nF ki lE iw,λF0 B F H Y ρ' Z d Q rs e w=>?_⟩;obtain⟨⟨d1,ρ1⟩,h1,h2⟩:=c9 e;obtain⟨d2,h3,h4⟩:=c9 h2;obtain⟨d3,h5,h6⟩:=c9 h4;cases h6;refine qa F0 B F H Y ρ1 Z d1 _ rs h1 λv1 F1 H1 r1 l1=>?_;cases d1 with
 |str y=>
  cases d2 with
  |str z=>
   have h5:(if(z.length==0)=Ã/\y.length<=16777216/\(Txt.split y z).length<=16777216 then U (D.lst<|(Txt.split y z).map .str)else G)=U d:=h5;by_cases hp:(z.length==0)=Ã/\y.length<=16777216/\(Txt.split y z).length<=16777216
   ·rw[if_pos hp]at h5;cases h5;cases l1;refine⟨rfl,qb F0 B F1 H1 ρ1 Z _ _ r1 h3 λv2 F2 H2 x2 l2=>?_⟩;have q2:=Al.scal (F':=F2) l2 rfl;cases q2;refine⟨y,z,rfl,rfl,hp.1,by rw[dW];exact hp.2.1,by rw[dW];exact hp.2.2,v9 (K:=X.K) (J:=J) x2.fh (MG _) λv F' H' fp x o nd hf=>?_⟩;obtain⟨F3,x3,dt⟩:=o.freeze x hf;exact w v F3 H' (r1.ext<|x2.trans x3) dt
   ·rw[if_neg hp]at h5;cases h5
  |_=>cases h5
 |_=>cases h5
theorem Vm (ha:XM X J S a gm)(hb:XE X J S 0 b g)(hp:n8 b:=by exactλ_ _=>rfl):XM X J S (.Subscript a b pos) (CL eG gm g):=by obtain⟨ta,pa,qa⟩:=ha;obtain⟨tb,pb,qb⟩:=hb;refine⟨_,Jx qp pa pb hp,λF0 B F H Y ρ' Z d Q rs e w=>?_⟩;obtain⟨⟨d1,ρ1⟩,h1,h2⟩:=c9 e;obtain⟨d2,h3,h4⟩:=c9 h2;obtain⟨d3,h5,h6⟩:=c9 h4;cases h6;refine qa F0 B F H Y ρ1 Z d1 _ rs h1 λv1 F1 H1 r1 l1=>?_;refine qb F0 B F1 H1 ρ1 Z d2 _ r1 h3 λv2 F2 H2 x2 l2=>?_;exact EU (n:=0) (m:=0) F2 H2 v1 v2 d1 d2 d Q x2.fh (Dt.mono x2.ff l1) l2 h5 λv F3 H3 x3 l=>w v F3 H3 (r1.ext<|x2.trans x3) l
variable {xs:List Nat}
section
open PySem PySem.Spec PySem.W L2
open PyProof.Rows hiding St
section
variable {K:Frag}{h:c7}{q m:Str}{f N:cN}{Ep pm J:cJ}{dd:Option cN}{fd:cT}{O:List cJ}{vs:List V}{o:gz}{p:Nat}
theorem ě (h:findIn K (.ref KK) x=U G):fP K KK x:=h
theorem ö (m j:Nat)(hm:m+vs.length=ps.length)(hd:fd.defaults=.ref T)(ho:K.lookup T=U o)(hs:o.data=.seq items n)(hv:ez vs<|items.toList.drop j)(h:∀us:List cJ,us.length=m->∃k,bindArgs fd ⟨us,[]⟩=seqItems? fd.defaults >>= k/\k (U items)=pure (ps.zip<|us++items.toList.drop j)) :
  ∃rH,True/\ez vs rH/\gM K fd ps rH:=⟨_,trivial,hv,QR m ho h hd hs<|by rw[←hv.length];exact hm⟩
end
theorem þ {P:Nat->Prop}:∀c∈([]:List Nat),P c:=λ_ h=>nomatch h
theorem R5 {P:Nat->Prop}{x:Nat}(h:P x)(t:∀c∈xs,P c):∀c∈x::xs,P c:=λc hc=>by
 rcases cP.mp hc with rfl|hc
 ·exact h
 ·exact t c hc
end
section
open PySem PySem.Spec PySem.W L2
open PyProof.Rows hiding St
section
variable {K:Frag}{h:c7}{q m:Str}{f N:cN}{Ep pm J:cJ}{dd:Option cN}{fd:cT}{O:List cJ}{vs:List V}{o:gz}{p:Nat}
theorem zC (X:K.In h:=by assumption)(V':h.Ns eI mg:=by assumption)(a:nsIn K eI x=U (U<|.ref KK):=by k_is)(b:makesIn K KK=Â:=by k_is)(k:keepIn K (.ref KK)=Â:=by k_is)(c:nY K KK:=by exact⟨by k_is,by k_is,by k_is,by k_is⟩):Dc K mg x KK:=⟨c,mg_of X V' a,b,k⟩
theorem zX {v:cJ}(X:K.In h:=by assumption)(V':h.Ns eI mg:=by assumption)(e:nsIn K eI x=U (U v):=by k_is):mg x=U v:=mg_of X V' e
theorem zB (X:K.In h:=by assumption)(V':h.Ns eI mg:=by assumption)(e:nsIn K eI x=U G:=by k_is):mg x=G:=mg_none_of X V' e
theorem zG {i:Int}{t:Tok}(e:mg x=U (.int i t):=by exact L3.zX):∃t,mg x=U (.int i t):=⟨t,e⟩
theorem zD (X:mg x=U (.ref f):=by exact L3.zX)(l:K.lookup f=U ⟨oc,od,.func<|fnOf x x (mj st) (iT st) (dS st) dV Ep doc pm an kO J,CO⟩:=by k_is)
  (c:codeIn K kO x=Â:=by k_is) (k:keepIn K (.ref f)=Â:=by k_is) (b:gM K (fnOf x x (mj st) (iT st) (dS st) dV Ep doc pm an kO J) ps []:=by first|exact .all (L3.Ġ λ_=>rfl)|exact .all (L3.Ĉ λ_ _=>rfl)|exact .all (L3.ą λ_ _ _=>rfl)|exact .all (L3.ā λ_ _ _ _=>rfl)|exact .all (L3.ć λ_ _ _ _ _=>rfl)|exact .all<|L3.ĳ λ_ _ _ _ _ _=>rfl):iX K mg x st ps f (fnOf x x (mj st) (iT st) (dS st) dV Ep doc pm an kO J):=⟨QQ l c k,X,b⟩
theorem zM (a:findIn K (.ref KK) m=U (U<|.ref f):=by k_is)(i:isFn K (.ref f)=Â:=by k_is)(l:K.lookup f=U ⟨oc,od,.func<|fnOf m q (mj st) (iT st) (dS st) dV Ep doc pm an kO J,CO⟩:=by k_is)
  (c:codeIn K kO q=Â:=by k_is) (k:keepIn K (.ref f)=Â:=by k_is) (b:gM K (fnOf m q (mj st) (iT st) (dS st) dV Ep doc pm an kO J) ps []:=by first|exact .all (L3.Ġ λ_=>rfl)|exact .all (L3.Ĉ λ_ _=>rfl)|exact .all (L3.ą λ_ _ _=>rfl)|exact .all (L3.ā λ_ _ _ _=>rfl)|exact .all (L3.ć λ_ _ _ _ _=>rfl)|exact .all<|L3.ĳ λ_ _ _ _ _ _=>rfl):Dm K KK m q st ps f (fnOf m q (mj st) (iT st) (dS st) dV Ep doc pm an kO J):=⟨QQ l c k,⟨a,i,k⟩,b⟩
theorem zE (m:Nat)(h:∀us:List cJ,us.length=m->∃k,bindArgs fd ⟨us,[]⟩=seqItems? fd.defaults >>= k/\k (U items)=pure (ps.zip<|us++O))(hm:m+O.length=ps.length:=by rfl)(hd:fd.defaults=.ref T:=by rfl)(ho:K.lookup T=U o:=by k_is)(hs:o.data=.seq items n:=by rfl):gM K fd ps O:=QR m ho h hd hs hm
end
theorem zF {P:Nat->Prop}{x:Nat}(t:∀c∈xs,P c)(h:P x:=by exact⟨⟨by k_is,by k_is,by k_is,by k_is⟩,L3.ě (by k_is)⟩):∀c∈x::xs,P c:=R5 h t
theorem zI {P:Nat->Prop}{x:Nat}(t:∀c∈xs,P c)(h:P x:=by exact⟨⟨⟨by k_is,by k_is,by k_is,by k_is⟩,by k_is,by k_is,by k_is,by k_is⟩,by kit_is⟩):∀c∈x::xs,P c:=R5 h t
end
section
variable {fd:cT}
theorem xv {o:Mo}(hm:S[i]?=U o:=by rfl)(hl:o.lv=n:=by rfl)(hN:X.N[i]?=U x:=by rfl)(hv:rZ X.env.scope x:=by walk_at "v1")(hd:kW x:=by decide)
  (kT:sU x:=by decide):XE X J S n (.Name x pos) (M i):=vn i n hm hl hN hv hd kT
theorem tJ (hr:gu kq X.A)(ha:XE X J S n a f)(hb:XE X J S m b g):XT X J S (.Compare a [.Eq] [b] pos) (tb<|L (iI Ã) f g):=vo (k:=0) (Ji hr.u64) vq ha hb<|iL _
theorem Hh (hr:gu kq X.A)(ha:XE X J S n a f)(hb:XE X J S m b g):XT X J S (.Compare a [.NotEq] [b] pos) (tb<|L (iI Â) f g):=vo (k:=0) (qr hr.u64) vq ha hb<|iL _
theorem Ą (hr:gu kq X.A)(ha:XE X J S n a f)(hb:XE X J S m b g):XE X J S 0 (.Compare a [.Eq] [b] pos) (L (iI Ã) f g):=Hy (k:=0) (Ji hr.u64) vq ha hb<|iL _
theorem Ve (hr:gu kq X.A)(ha:XE X J S n a f)(hb:XE X J S m b g):XE X J S 0 (.Compare a [.NotEq] [b] pos) (L (iI Â) f g):=Hy (k:=0) (qr hr.u64) vq ha hb<|iL _
theorem AS (ha:XE X J S n a f)(hb:XE X J S m b g):XT X J S (.Compare a [.Lt] [b] pos) (tb<|L wQ f g):=vo (k:=0) Ĺ ŷ ha hb<|iL _
theorem Oo (ha:XE X J S n a f)(hb:XE X J S m b g):XT X J S (.Compare a [.LtE] [b] pos) (tb<|L vV f g):=vo (k:=0) Rx QC ha hb<|iL _
theorem BQ (ha:XE X J S n a f)(hb:XE X J S m b g):XT X J S (.Compare a [.Gt] [b] pos) (tb<|L uL f g):=vo (k:=0) R3 Rk ha hb<|iL _
theorem On (ha:XE X J S n a f)(hb:XE X J S m b g):XT X J S (.Compare a [.GtE] [b] pos) (tb<|L E9 f g):=vo (k:=0) ķ Ŷ ha hb<|iL _
theorem zT (ha:XE X J S n a f)(hb:XE X J S m b g):XT X J S (.Compare a [.Is] [b] pos) (tb<|L (qM Ã) f g):=vo (k:=0) Ŏ Ŵ ha hb<|iL _
theorem Oq (ha:XE X J S n a f)(hb:XE X J S m b g):XT X J S (.Compare a [.IsNot] [b] pos) (tb<|L (qM Â) f g):=vo (k:=0) Zl YH ha hb<|iL _
theorem B9 (ha:XE X J S n a f)(hb:XE X J S m b g):XE X J S 0 (.Compare a [.LtE] [b] pos) (L vV f g):=Hy (k:=0) Rx QC ha hb<|iL _
theorem Vd (ha:XE X J S n a f)(hb:XE X J S m b g):XE X J S 0 (.Compare a [.Gt] [b] pos) (L uL f g):=Hy (k:=0) R3 Rk ha hb<|iL _
theorem oX (ha:XE X J S n a f)(hb:XE X J S m b g):XE X J S 0 (.BinOp a .Sub b pos) (L kx f g):=jx (k:=0) Ρ zt6 ha hb
theorem é (ha:XE X J S n a f)(hb:XE X J S m b g):XE X J S 0 (.BinOp a .FloorDiv b pos) (L iD f g):=jx (k:=0) ZJ ZQ ha hb
theorem Þ (ha:XE X J S n a f)(hb:XE X J S m b g):XE X J S 0 (.BinOp a .Mod b pos) (L iA f g):=jx (k:=0) zta zt8 ha hb
theorem uW (ha:XE X J S n a f)(hb:XE X J S m b g):XE X J S 0 (.BinOp a .Mult b pos) (L jY f g):=jx (k:=0) ztp Zn ha hb
theorem fJ (h:XO X J S k e f):XE X J S 0 e f:=XO.sh h
theorem xc (d:iX X.K X.mg x st ps fa fd)(Fn:dR X.prog X.w X.K X.mg X.base fQ kk fa fd ps<|iP X.K J ns rk mf)(hr:gu kq X.A)(ha:XA X J S (e::es) ns fs)(uT:kk<=kq:=by decide)(hg:Gl X x:=by rfl)
  (oV:kW x:=by decide) (he:SE X e es:=by rfl) (lW:pW X pos es:=by rfl) :
  XE X J S 0 (.Call (.Name x pp) (e::es) [] pos) (λY=>(fs Y).bind λO=>mf<|O++[]):=fJ<|jG d Fn hr ha uT hg oV he lW
theorem jO (he:XE X J S 0 e f)(hc:∀c∈cs,nY X.K (J c)/\fP X.K (J c) x)(hb:yO X e x:=by rfl):XE X J S 0 (.Attribute e x pos) (e1 (dH cs x) f):=Rj (n:=0) he hc hb
theorem uS (he:XE X J S 1 e f)(hc:∀c∈cs,nY X.K (J c)/\fP X.K (J c) x)(hb:yO X e x:=by rfl):XE X J S 0 (.Attribute e x pos) (e1 (dH cs x) f):=Rj (n:=1) he hc hb
theorem B6 (ha:XE X J S 1 a f)(hb:XE X J S m b g)(hp:n8 b:=by exactλ_ _=>rfl):XE X J S 0 (.Subscript a b pos) (L eG f g):=FB (n:=1) qp EU ha hb hp
theorem DO {i:Int}(hm:∃t,X.mg x=U (.int i t))(hg:Gl X x:=by rfl)(hd:kW x:=by decide):XE X J S 0 (.Name x pos) (eC<|.int i):=hm.elim λ_ h=>zuf hg h rfl ⟨_,rfl⟩ hd
theorem xF (hi:XI X J S n tg iter fi)(hg:XG X J S n tg gg)(hb:wM X J S rk Î u)(hp:lC (dz X.prog X.w) X.A X.env X.xe:=by exact lC.never)(hc:X.calm=Â:=by rfl)
  (hs:A0 X iter:=by intro _;rfl):XS X J S rk (.For tg iter Î [] pos) (Ò fi gg u):=Ÿ hi hg hb hp hc hs
theorem IE (hc:XT X J S c p)(hb:wM X J S rk Î u)(hp:lC (dz X.prog X.w) X.A X.env X.xe:=by exact lC.never):XS X J S rk (.While c Î [] pos) (qX p u):=ZP hc hb hp
theorem jI (he:XE X J S 0 e f):XS X J S 0 (.Return (U e) pos) (É f):=xj<|XE.ow he
theorem nr (hN:X.N.Nodup)(he:XE X J S 0 e f)(hm:S[i]?=U (.ow 0):=by rfl)(hi:X.N[i]?=U x:=by rfl)(hx:ë X.env.scope x:=by walk_at "v3")
  (hs:FR X e x pos' pos:=by rfl)
  (hf:uQ X x:=by walk_at "v2"):XS X J S rk (.Assign [.Name x pos'] e pos) (È i f):=lR hN (XE.ow he) hm hi hx hs hf
theorem lZ (ht:XT X J S c p)(h:XS X J S rk st u):XS X J S rk (.If c [st] [] pos) (Ö p u Ë):=FD ht (zh h) wb
theorem uD {own:Nat}(hi:Cm X J S n tg iter fi)
  (hg:∀cl KK fp s₀ H₀,N.Nodup->A1 (nZ X scope cl N KK fp s₀ H₀) J (om++ke S cap) own n tg gg) (ht:∀cl KK fp s₀ H₀,Cp (nZ X scope cl N KK fp s₀ H₀) J (om++ke S cap) ifs p) (he:∀cl KK fp s₀ H₀,XO (nZ X scope cl N KK fp s₀ H₀) J (om++ke S cap) k qL f)
  (nd:N.Nodup:=by decide +kernel) (B:pB X scope N own cap:=by exact M0 (by rfl)) (hc:X.calm=Â:=by rfl) (ho:om.length=own:=by rfl) (rK:∀i∈cap,i<S.length:=by decide)
  (hs:A0 X iter:=by intro _;rfl):XO X J S (k+1) (.ListComp qL [⟨tg,iter,ifs,0⟩] scope pos) (fw fi own cap gg p f):=QM B hc ho rK hi (λcl KK fp s₀ H₀=>hg cl KK fp s₀ H₀ nd) ht he hs
theorem Bb {own:Nat}{xW:mR}(hN:X.N.Nodup)(hi:Cm X J S n tg iter fi)
  (hg:∀cl KK fp s₀ H₀,N.Nodup->A1 (nZ X scope cl N KK fp s₀ H₀) J (om++ke S cap) own n tg gg) (ht:∀cl KK fp s₀ H₀,Cp (nZ X scope cl N KK fp s₀ H₀) J (om++ke S cap) ifs p) (he:∀cl KK fp s₀ H₀,XO (nZ X scope cl N KK fp s₀ H₀) J (om++ke S cap) (k-1) qL f)
  (nd:N.Nodup:=by decide +kernel) (hm:S[i]?=U (.ow k):=by rfl) (Gp:X.N[i]?=U x:=by rfl) (hx:ë X.env.scope x:=by walk_at "v3")
  (B:pB X scope N own cap:=by exact M0 (by rfl)) (hc:X.calm=Â:=by rfl) (ho:om.length=own:=by rfl) (rK:∀i∈cap,i<S.length:=by decide)
  (Bz:gk (.ListComp qL [⟨tg,iter,ifs,0⟩] scope pos) (U<|.Name x pos') xW.line X.env=pure Â:=by rfl)
  (hs:A0 X iter:=by intro _;rfl) (hf:uQ X x:=by walk_at "v2") :
  XS X J S rk (.Assign [.Name x pos'] (.ListComp qL [⟨tg,iter,ifs,0⟩] scope pos) xW) (È i<|fw fi own cap gg p f):=XR hm hN Gp hx B hc ho rK hi (λcl KK fp s₀ H₀=>hg cl KK fp s₀ H₀ nd) ht he Bz hs hf
theorem Hq {q:Str}(L':Dc X.K X.mg x<|J c0)(d:Dm X.K (J c0) "__init__" q st ps fa fd)(Fn:dR X.prog X.w X.K X.mg X.base fQ kk fa fd ps<|yQ X.K J cs ns mi)(hr:gu kq X.A)(ha:XA X J S (e::es) ns fs)(Bv:c0∈cs:=by decide)(uT:kk+1<=kq:=by decide)(hg:Gl X x:=by rfl)
  (oV:kW x:=by decide) (he:SE X e es:=by rfl) (lW:pW X pos es:=by rfl) :
  XO X J S 1 (.Call (.Name x pp) (e::es) [] pos) (λY=>(fs Y).bind λO=>mi c0<|O++[]) :=
 zum (ns:=ns) (nd:=[]) (pH:=[]) ⟨L'.mks,d.me.at_,d.me.fn,L'.kp⟩ Bv (by rw[dU];exact Fn) (hr.mono uT) hg L'.mgx d.bd .nil (λ_ _=>.nil) ha oV he lW
end
section
variable {w:d8}{base:c7}{N0:Str}{fd:cT}
theorem lf (Fn:ì K x qual st fa fd)(body:∀(kO:cJ) (A:d6) (outer:List PySem.Env) (s:cU) (H:Hp) (E:XK),gu kk (A.deeper<|envOfC qual (dS st) s.heap.objs.size fa kO)->N.Nodup->wM (tU fQ P w K mg base N qual (dS st) fa kO A outer s H E).nox J S rk (iT st) bf)
  (W':gq N ps (dS st):=by exact⟨rfl,rfl,rfl,by decide +kernel,rfl,by decide +kernel,by decide +kernel⟩)
  (CA:pm.length=ps.length:=by rfl) (Du:S.length=N.length:=by rfl) (uT:ps.length<=N.length:=by decide) (D9:∀(i n:Nat),pm[i]?=U n->S[i]?=U (Mo.al n)\/(n=0/\S[i]?=U (Mo.ow 0)):=by exact IM (by decide)) :
  dR P w K mg base fQ (kk+1) fa fd ps (iP K J pm rk<|Ï N bf):=ğ Fn W' CA Du uT D9 λa b c d e f g=>body a b c d e f g W'.nd
theorem Fg (Fn:ì K x qual st fa fd)(body:∀(x:cN) (kO:cJ) (A:d6) (outer:List PySem.Env) (s:cU) (H:Hp) (E:XK),gu kk (A.deeper<|envOfC qual (dS st) s.heap.objs.size fa kO)->(N0::N).Nodup->wM (tU fQ P w K mg base (N0::N) qual (dS st) fa kO A outer s H E).nox J (.so x::S) rk (iT st) bf)
  (W':gq (N0::N) ps (dS st):=by exact⟨rfl,rfl,rfl,by decide +kernel,rfl,by decide +kernel,by decide +kernel⟩)
  (CA:pm.length+1=ps.length:=by rfl) (Du:S.length=N.length:=by rfl) (uT:pm.length<=N.length:=by decide) (D9:∀(i n:Nat),pm[i]?=U n->S[i]?=U (Mo.al n)\/(n=0/\S[i]?=U (Mo.ow 0)):=by exact IM (by decide)) :
  dR P w K mg base fQ (kk+1) fa fd ps (yQ K J cs pm<|CH (N0::N) bf):=Y4 Fn W' CA Du uT D9 λx a b c d e f g=>body x a b c d e f g W'.nd
end
end L3
namespace My
open PySem L2 L3
abbrev cl (m:List D->Option D)(fs:L3.Env->Option (List D)):EF:=λY=>(fs Y).bind λO=>m<|O++[]
noncomputable abbrev dA (i:Int):Option D:=some<|.int i
noncomputable abbrev gE (xs:List D):Option D:=some<|.lst xs
noncomputable abbrev mO (l:List Nat):List Mo:=l.map .ow
noncomputable def Ñ (i:Nat):eo:=PySem.Challenge.pw_ringbeat_k89_greatest_counts.main.body.getD i<|.Pass ⟨0,0,0,0⟩
abbrev Wa:eo:=Ô (Ñ 43) 0
abbrev WI:eo:=Ô (Ñ 45) 0
abbrev WJ:eo:=Ô (Ñ 46) 0
abbrev Xd:eo:=Ñ 53
abbrev Xe:eo:=Ñ 54
abbrev YY:eo:=Ñ 55
abbrev Xf:eo:=Ñ 56
abbrev WK:eo:=Ñ 57
abbrev XZ:eo:=Ñ 58
abbrev V2:eo:=Ñ 59
abbrev X0:eo:=Ñ 61
abbrev W2:eo:=Ô (Ñ 63) 0
abbrev j7:eo:=Ô (Ñ 63) 1
abbrev X1:eo:=Ô (Ñ 63) 2
abbrev Xg:eo:=Ô (Ñ 63) 3
abbrev Xh:eo:=Ñ 97
abbrev zev:eo:=Ñ 98
abbrev VL:eo:=Ñ 99
abbrev Wb:eo:=Ñ 100
abbrev VM:eo:=Ñ 101
abbrev Wc:eo:=Ñ 102
abbrev V3:eo:=Ñ 104
abbrev zu9:eo:=Ñ 17
abbrev zqp:eo:=Ñ 18
abbrev V4:eo:=Ñ 20
abbrev W3:eo:=Ñ 21
abbrev jk:eo:=Ñ 22
abbrev VN:eo:=Ñ 23
abbrev Vn:eo:=Ñ 24
abbrev zqq:eo:=Ñ 26
abbrev Yj:eo:=Ñ 27
abbrev VO:eo:=Ñ 28
abbrev W4:eo:=Ñ 29
abbrev WL:eo:=Ñ 30
abbrev YZ:eo:=Ñ 31
abbrev We:eo:=Ñ 32
abbrev VP:eo:=Ñ 33
abbrev WM:eo:=Ñ 34
abbrev WN:eo:=Ô (Ñ 93) 1
abbrev Wf:eo:=Ô (Ñ 93) 0
abbrev W5:eo:=Ñ 66
abbrev v4:eo:=Ñ 67
abbrev Ι:eo:=Ñ 68
abbrev W6:eo:=Ñ 69
abbrev W7:eo:=Ñ 70
abbrev Θ:eo:=Ñ 71
abbrev V5:eo:=Ô (Ñ 44) 2
abbrev V6:eo:=Ô (Ñ 45) 2
abbrev V7:eo:=Ô (Ñ 46) 2
abbrev Y0:eo:=Ñ 74
abbrev Zc:eo:=Ñ 75
abbrev Zd:eo:=Ñ 76
abbrev Xi:eo:=Ñ 36
abbrev zqr:eo:=Ñ 37
abbrev V8:eo:=Ñ 38
abbrev WQ:eo:=Ñ 39
abbrev Ww:eo:=Ñ 40
abbrev Ze:eo:=Ñ 41
abbrev W8:eo:=Ñ 111
abbrev Yk:eo:=Ñ 112
abbrev V9:eo:=Ñ 113
abbrev zqs:eo:=Ñ 114
abbrev W9:eo:=Ñ 115
abbrev Wg:eo:=Ñ 116
abbrev Wh:eo:=Ñ 117
abbrev jl:eo:=Ñ 118
abbrev jm:eo:=Ñ 119
abbrev jo:eo:=Ñ 120
abbrev OM:eo:=Ñ 124
abbrev OY:eo:=Ñ 125
abbrev Pz:eo:=Ñ 127
abbrev ON:eo:=Ñ 130
abbrev OZ:eo:=Ñ 131
abbrev O0:eo:=Ñ 132
abbrev O1:eo:=Ñ 134
abbrev Wx:eo:=Ô (Ñ 136) 0
abbrev O2:eo:=Ô (Ñ 136) 1
abbrev Wy:eo:=Ñ 138
abbrev Xj:eo:=Ñ 139
abbrev Xq:eo:=Ñ 140
abbrev Xr:eo:=Ñ 141
abbrev Yl:eo:=Ñ 142
abbrev O3:eo:=Ñ 143
abbrev Xt:eo:=Ñ 144
abbrev O4:eo:=Ñ 145
abbrev Vo:eo:=Ñ 146
theorem Wi:gq ["desk","words"] ["desk","words"] (dS jl):=⟨rfl,rfl,rfl,by decide +kernel,rfl,by decide +kernel,by decide +kernel⟩
theorem Wj:gq ["desk","arrows"] ["desk","arrows"] (dS jm):=⟨rfl,rfl,rfl,by decide +kernel,rfl,by decide +kernel,by decide +kernel⟩
theorem Wk:gq ["desk","words"] ["desk","words"] (dS jo):=⟨rfl,rfl,rfl,by decide +kernel,rfl,by decide +kernel,by decide +kernel⟩
theorem Xa:gq ["desk","words"] ["desk","words"] (dS OM):=⟨rfl,rfl,rfl,by decide +kernel,rfl,by decide +kernel,by decide +kernel⟩
theorem Xu:gq ["desk","words"] ["desk","words"] (dS OY):=⟨rfl,rfl,rfl,by decide +kernel,rfl,by decide +kernel,by decide +kernel⟩
theorem Ym:gq ["desk","words"] ["desk","words"] (dS Pz):=⟨rfl,rfl,rfl,by decide +kernel,rfl,by decide +kernel,by decide +kernel⟩
theorem OC:gq ["desk","words","paper"] ["desk","words"] (dS ON):=⟨rfl,rfl,rfl,by decide +kernel,rfl,by decide +kernel,by decide +kernel⟩
theorem Xv:gq ["desk","words"] ["desk","words"] (dS OZ):=⟨rfl,rfl,rfl,by decide +kernel,rfl,by decide +kernel,by decide +kernel⟩
theorem OO:gq ["desk","words","told"] ["desk","words"] (dS O0):=⟨rfl,rfl,rfl,by decide +kernel,rfl,by decide +kernel,by decide +kernel⟩
theorem OH:gq ["desk","words","told"] ["desk","words"] (dS O1):=⟨rfl,rfl,rfl,by decide +kernel,rfl,by decide +kernel,by decide +kernel⟩
theorem u6:gq ["self","row","words","answer"] ["self","row"] (dS O2):=⟨rfl,rfl,rfl,by decide +kernel,rfl,by decide +kernel,by decide +kernel⟩
theorem wu:gq ["_law_desk","_law_script","_law_both","_law_many","_law_most","_law_due"] ["_law_desk","_law_script","_law_both"] (dS O3):=⟨rfl,rfl,rfl,by decide +kernel,rfl,by decide +kernel,by decide +kernel⟩
theorem yu:gq ["_law_desk","_law_script","_law_names_here","_law_amount","_law_when","_law_many","_law_due","_law_most","_law_turn"] ["_law_desk","_law_script","_law_names_here","_law_amount","_law_when"] (dS O4):=⟨rfl,rfl,rfl,by decide +kernel,rfl,by decide +kernel,by decide +kernel⟩
set_option genInjectivity false
set_option genSizeOf false
structure ă where
 b:cN
 c:cN
 d:cN
 e:cN
 f:cN
 g:cN
 h:cN
 i:cN
 j:cT
 k:cN
 l:cT
 m:cN
 n:cT
 o:cN
 p:cT
 q:cN
 r:cT
 s:cN
 t:cT
 u:cN
 v:cT
 x:cN
 y:cT
 z:cN
 aa:cT
 ab:cN
 ac:cT
 ad:cN
 ae:cT
 af:cN
 ag:cT
 ah:cN
 ai:cT
 aj:cN
 ak:cT
 al:cN
 am:cT
 an:cN
 ao:cT
 ap:cN
 aq:cT
 ar:cN
 au:cT
 av:cN
 aw:cT
 ax:cN
 ay:cT
 az:cN
 aA:cT
 aB:cN
 aC:cT
 aD:cN
 aE:cT
 aF:cN
 aG:cT
 aH:cN
 aI:cT
 aJ:cN
 aK:cT
 aL:cN
 aM:cT
 aN:cN
 aO:cT
 aP:cN
 aQ:cT
 aR:cN
 aS:cT
 aT:cN
 aU:cT
 aV:cN
 aW:cT
 aX:cN
 aY:cT
 aZ:cN
 a0:cT
 a1:cN
 a2:cT
 a3:cN
 a4:cT
 a5:cN
 a6:cT
 a7:cN
 a8:cT
 a9:cN
 ba:cT
 bb:cN
 bc:cT
 bd:cN
 be:cT
 bf:cN
 bg:cT
 bh:cN
 bi:cT
 bj:cN
 bk:cT
 bl:cN
 bm:cT
 bn:cN
 bo:cT
 bp:cN
 bq:cT
 br:cN
 bs:cT
 bt:cN
 bu:cT
 bv:cN
 bw:cT
 bx:cN
 bz:cT
 bA:cN
 bB:cT
 bC:cN
 bD:cT
 bE:cN
 bF:cT
 bG:cN
 bH:cT
 bI:cN
 bJ:cT
 bK:cN
 bL:cT
 bM:cN
 bN:cT
 bO:cN
 bP:cT
 bQ:cN
 bR:cT
 bS:cN
 bT:cT
 bU:cN
 bV:cT
 bW:cN
 bX:cT
 bY:cN
 bZ:cT
 b0:cN
 b1:cT
 b2:cN
 b3:cT
 b4:cN
 b5:cT
 b6:cN
 b7:cT
 b8:cN
 b9:cT
 ca:cN
 cb:cT
 cc:cN
 cd:cT
 ce:cN
 cf:cT
 cg:cN
 ch:cT
 ci:cN
 cj:cT
 ck:cN
 cl:cT
 cm:cN
 cn:cT
 co:cN
 cp:cT
 cq:cN
 cr:cT
 cs:cN
 cu:cT
 cv:cN
 cw:cT
 cx:cN
 cy:cT
 cz:cN
 cA:cT
 cB:cN
 cC:cT
 cD:cN
 cE:cT
 cF:cN
 cG:cT
 cH:cN
 cI:cT
set_option genSizeOf true
set_option genInjectivity true
def ă.ct (a:ă):Nat->cN
 |0=>a.b
 |1=>a.c
 |2=>a.d
 |3=>a.e
 |4=>a.f
 |5=>a.g
 |6=>a.h
 |_=>0
noncomputable def yn:D:=(.kt [(.str "cut"),(.str "change")])
noncomputable def yh:D:=(.kt [(.str "late"),(.str "fate"),(.str "spare"),(.str "give")])
noncomputable def ym:List (Str×D):=[("cut",(.kt [(.kt [(.int 0),(.int 999999999999999)])])),("change",(.kt [(.kt [(.int 0),(.int 999999999999999)]),(.kt [(.int 0),(.int 999999999999999)])])),("put",(.kt [.non,(.kt [(.int 0),(.int 400)]),(.kt [(.int 0),(.int 1000000000000)])])),("show",(.kt [])),("run",(.kt [(.kt [(.int 0),(.int 400)])])),("least",(.kt [])),("rate",(.kt [.non])),("again",(.kt [(.kt [(.int 1),(.int 200)])])),("late",(.kt [(.kt [(.int 0),(.int 400)])])),("fate",(.kt [(.kt [(.int 1),(.int 400)])])),("spare",(.kt [.non,.non])),("give",(.kt [.non,(.kt [(.int 0),(.int 60)])]))]
structure Txt (K:cL)(mg:Str->Option cJ)(a:ă)(w:d8):Prop where
 b:Dc K mg "Arrow" a.b
 c:Dc K mg "Ride" a.c
 d:Dc K mg "Wait" a.d
 e:Dc K mg "Back" a.e
 f:Dc K mg "Net" a.f
 g:Dc K mg "Table" a.g
 h:Dc K mg "Desk" a.h
 i:Dm K a.b "__init__" "Arrow.__init__" Wa ["self","start","goal","time","behind"] a.i a.j
 j:Dm K a.d "__init__" "Wait.__init__" WI ["self","start","goal","time","behind"] a.k a.l
 k:∃rH,True/\ez [(V.int 0)] rH/\gM K a.l ["self","start","goal","time","behind"] rH
 l:Dm K a.e "__init__" "Back.__init__" WJ ["self","start","goal","time","behind"] a.m a.n
 m:∃rH,True/\ez [(V.int 1)] rH/\gM K a.n ["self","start","goal","time","behind"] rH
 n:iX K mg "is_letter" Xd ["sign"] a.o a.p
 o:iX K mg "is_figure" Xe ["sign"] a.q a.r
 p:iX K mg "is_name" YY ["word"] a.s a.t
 q:iX K mg "are_names" Xf ["names"] a.u a.v
 r:iX K mg "lies_within" WK ["number","least","most"] a.x a.y
 s:iX K mg "is_right" XZ ["arrow","many"] a.z a.aa
 t:iX K mg "placed_goings" V2 ["many","arrows"] a.ab a.ac
 u:iX K mg "way_back" X0 ["arrows","chosen","start","goal"] a.ad a.ae
 v:Dm K a.f "__init__" "Net.__init__" W2 ["self","names","arrows"] a.af a.ag
 x:Dm K a.f "most_behind" "Net.most_behind" j7 ["self"] a.ah a.ai
 y:Dm K a.f "into" "Net.into" X1 ["self","going"] a.aj a.ak
 z:Dm K a.f "order" "Net.order" Xg ["self"] a.al a.am
 aa:iX K mg "is_number" Xh ["word"] a.an a.ao
 ab:iX K mg "are_numbers" zev ["words"] a.ap a.aq
 ac:iX K mg "has_arrow_form" VL ["words"] a.ar a.au
 ad:iX K mg "names_in_row" Wb ["words"] a.av a.aw
 ae:iX K mg "refuse_unknown" VM ["told","names"] a.ax a.ay
 af:iX K mg "arrow_of_row" Wc ["words","names"] a.az a.aA
 ag:iX K mg "arrows_of_row" V3 ["words","names"] a.aB a.aC
 ah:iX K mg "later" zu9 ["when","more"] a.aD a.aE
 ai:iX K mg "latest" zqp ["one","other"] a.aF a.aG
 aj:iX K mg "greatest_told" V4 ["told"] a.aH a.aI
 ak:iX K mg "rows_ahead" W3 ["net","was"] a.aJ a.aK
 al:iX K mg "time_in_last_row" jk ["net","rows","numbers","floor"] a.aL a.aM
 am:iX K mg "rows_with_past" VN ["net","rounds","was","floors"] a.aN a.aO
 an:iX K mg "run" Vn ["net","rounds","was","floors"] a.aP a.aQ
 ao:∃rH,True/\ez [V.non] rH/\gM K a.aQ ["net","rounds","was","floors"] rH
 ap:∃rH,True/\ez [V.non,V.non] rH/\gM K a.aQ ["net","rounds","was","floors"] rH
 aq:iX K mg "growth" zqq ["rows","first","count"] a.aR a.aS
 ar:iX K mg "grows_so" Yj ["rows","first","last","count","lengths"] a.aT a.aU
 au:iX K mg "never_outgrown" VO ["net","lengths"] a.aV a.aW
 av:iX K mg "is_carried" W4 ["rows","carriers","going","number"] a.aX a.aY
 aw:iX K mg "all_carried" WL ["net","rows","first","last","lengths"] a.aZ a.a0
 ax:iX K mg "goes_on" YZ ["net","rows","paper"] a.a1 a.a2
 ay:iX K mg "refuse_loose" We ["net"] a.a3 a.a4
 az:iX K mg "earliest_round" VP ["rows","known","count","lengths"] a.a5 a.a6
 aA:iX K mg "comes_again" WM ["net","most","was"] a.a7 a.a8
 aB:∃rH,True/\ez [V.non] rH/\gM K a.a8 ["net","most","was"] rH
 aC:Dm K a.g "slack" "Table.slack" WN ["self","arrow"] a.a9 a.ba
 aD:Dm K a.g "__init__" "Table.__init__" Wf ["self","net","times","beat"] a.bb a.bc
 aE:iX K mg "links_into" W5 ["table","going","left_out"] a.bd a.be
 aF:iX K mg "lateness_in_last_row" v4 ["rows","links","put"] a.bf a.bg
 aG:iX K mg "late" Ι ["table","rounds","puts","without"] a.bh a.bi
 aH:∃rH,True/\ez [V.non] rH/\gM K a.bi ["table","rounds","puts","without"] rH
 aI:iX K mg "tight_ring" W6 ["table","going"] a.bj a.bk
 aJ:iX K mg "first_kept" W7 ["table","rows"] a.bl a.bm
 aK:iX K mg "fate" Θ ["table","puts","most"] a.bn a.bo
 aL:Dm K a.c "may_drop" "Ride.may_drop" V5 ["self"] a.bp a.bq
 aM:Dm K a.d "may_drop" "Wait.may_drop" V6 ["self"] a.br a.bs
 aN:Dm K a.e "may_drop" "Back.may_drop" V7 ["self"] a.bt a.bu
 aO:iX K mg "sets_of" Y0 ["waits"] a.bv a.bw
 aP:iX K mg "is_late" Zc ["table","puts","going","beat","without"] a.bx a.bz
 aQ:iX K mg "give_up" Zd ["table","puts","going","beat"] a.bA a.bB
 aR:iX K mg "time_word" Xi ["time"] a.bC a.bD
 aS:iX K mg "widest" zqr ["words"] a.bE a.bF
 aT:iX K mg "number_column" V8 ["first","many"] a.bG a.bH
 aU:iX K mg "time_column" WQ ["name","times"] a.bI a.bJ
 aV:iX K mg "line_across" Ww ["columns","place"] a.bK a.bL
 aW:iX K mg "almanac" Ze ["names","rows","first"] a.bM a.bN
 aX:iX K mg "stands_for" W8 ["word","slot"] a.bO a.bP
 aY:iX K mg "has_form" Yk ["words"] a.bQ a.bR
 aZ:iX K mg "has_plan_form" V9 ["words","many"] a.bS a.bT
 a0:iX K mg "is_row" zqs ["desk","words"] a.bU a.bV
 a1:iX K mg "names_told" W9 ["words"] a.bW a.bX
 a2:iX K mg "number_words" Wg ["numbers"] a.bY a.bZ
 a3:iX K mg "going_called" Wh ["desk","name"] a.b0 a.b1
 a4:iX K mg "tell_goings" jl ["desk","words"] a.b2 a.b3
 a5:iX K mg "take_arrows" jm ["desk","arrows"] a.b4 a.b5
 a6:iX K mg "tell_arrows" jo ["desk","words"] a.b6 a.b7
 a7:iX K mg "tell_plan" OM ["desk","words"] a.b8 a.b9
 a8:iX K mg "tell_put" OY ["desk","words"] a.ca a.cb
 a9:iX K mg "ask_run" Pz ["desk","words"] a.cc a.cd
 ba:iX K mg "ask_again" ON ["desk","words"] a.ce a.cf
 bb:iX K mg "ask_late" OZ ["desk","words"] a.cg a.ch
 bc:iX K mg "ask_fate" O0 ["desk","words"] a.ci a.cj
 bd:iX K mg "ask_give" O1 ["desk","words"] a.ck a.cl
 be:Dm K a.h "__init__" "Desk.__init__" Wx ["self"] a.cm a.cn
 bf:Dm K a.h "say" "Desk.say" O2 ["self","row"] a.co a.cp
 bg:iX K mg "_law_cell_at" Wy ["_law_script","_law_k"] a.cq a.cr
 bh:iX K mg "_law_mixed" Xj ["_law_cell","_law_k"] a.cs a.cu
 bi:iX K mg "_law_names" Xq ["_law_cell","_law_many"] a.cv a.cw
 bj:iX K mg "_law_count" Xr ["_law_cell","_law_most"] a.cx a.cy
 bk:iX K mg "_law_last" Yl ["_law_told","_law_many","_law_word"] a.cz a.cA
 bl:iX K mg "_law_free" O3 ["_law_desk","_law_script","_law_both"] a.cB a.cC
 bm:iX K mg "_law_begun" Xt ["_law_script","_law_names_here","_law_one","_law_other"] a.cD a.cE
 bn:iX K mg "_law_late" O4 ["_law_desk","_law_script","_law_names_here","_law_amount","_law_when"] a.cF a.cG
 bo:iX K mg "law" Vo ["_law_script"] a.cH a.cI
 bp:∃u,mg "WORDS_OF_ARROWS"=U u/\KC K yn u
 bq:∃u,mg "WORDS_OF_PLANS"=U u/\KC K yh u
 br:KG K w mg "FORMS" ym
 bs:KF K w mg "ANSWERS" [("goings",a.b2),("wait",a.b6),("back",a.b6),("plan",a.b8),("put",a.ca),("run",a.cc),("again",a.ce),("late",a.cg),("fate",a.ci),("give",a.ck)]
 bt:Dq K a.b "__init__" a.i
 bu:∀c∈([6]:List Nat),nY K (a.ct c)/\fP K (a.ct c) "answered"
 bv:∀c∈([4]:List Nat),nY K (a.ct c)/\fP K (a.ct c) "arrows"
 bw:∀c∈([5]:List Nat),nY K (a.ct c)/\fP K (a.ct c) "beat"
 bx:∀c∈([0,1,2,3]:List Nat),nY K (a.ct c)/\fP K (a.ct c) "behind"
 bz:∀c∈([0,1,2,3]:List Nat),nY K (a.ct c)/\fP K (a.ct c) "goal"
 bA:∀c∈([4]:List Nat),nY K (a.ct c)/\fP K (a.ct c) "names"
 bB:∀c∈([5,6]:List Nat),nY K (a.ct c)/\fP K (a.ct c) "net"
 bC:∀c∈([6]:List Nat),nY K (a.ct c)/\fP K (a.ct c) "puts"
 bD:∀c∈([0,1,2,3]:List Nat),nY K (a.ct c)/\fP K (a.ct c) "start"
 bE:∀c∈([6]:List Nat),nY K (a.ct c)/\fP K (a.ct c) "table"
 bF:∀c∈([0,1,2,3]:List Nat),nY K (a.ct c)/\fP K (a.ct c) "time"
 bG:∀c∈([5]:List Nat),nY K (a.ct c)/\fP K (a.ct c) "times"
 bH:∀c∈([0,1,2,3,4,5,6]:List Nat),Ic K (a.ct c)/\iG K (.ref<|a.ct c) (.ref a.e)=U (C8 [3] c)
 bI:∀c∈([0,1,2,3,4,5,6]:List Nat),Ic K (a.ct c)/\iG K (.ref<|a.ct c) (.ref a.c)=U (C8 [1] c)
 bJ:mg "all"=G
 bK:mg "bool"=G
 bL:mg "enumerate"=G
 bM:mg "int"=G
 bN:mg "isinstance"=G
 bO:mg "len"=G
 bP:mg "list"=G
 bQ:mg "max"=G
 bR:mg "range"=G
 bS:mg "reversed"=G
 bT:mg "sorted"=G
 bU:mg "str"=G
 bV:mg "zip"=G
 bW:∃t,mg "MOST_ARROWS"=U (.int 120 t)
 bX:∃t,mg "MOST_BEHIND"=U (.int 4 t)
 bY:∃t,mg "MOST_FIGURES"=U (.int 15 t)
 bZ:∃t,mg "MOST_NAMES"=U (.int 40 t)
 b0:∃t,mg "MOST_PLANNED"=U (.int 1000000000000 t)
 b1:∃t,mg "MOST_SIGNS"=U (.int 8 t)
 b2:∃t,mg "MOST_TIME"=U (.int 1000000000 t)
 b3:∃t,mg "MOST_WAITS"=U (.int 8 t)
variable {K:cL}{mg:Str->Option cJ}
noncomputable section
variable {P:eL}{w:d8}{base:c7}{a:ă}{J:Nat->cN}
def mH:Nat->List D->Option D:=CH ["self","start","goal","time","behind"]
  (Ç (mP [0,1,2,3] "start" (M 1))
  (Ç (mP [0,1,2,3] "goal" (M 2))
  (Ç (mP [0,1,2,3] "time" (M 3))
  (mP [0,1,2,3] "behind" (M 4)))))
theorem ud (T:Txt K mg a w):dR P w K mg base fQ 1 a.i a.j ["self","start","goal","time","behind"] (yQ K a.ct [0,1,2,3] [0,0,0,0] mH) :=
 Fg (S:=mO [0,0,0,0]) (rk:=0) T.i.fn λ_ _ _ _ _ _ _ hr nd=>(zc (vt T.bD xv)<|zc (vt T.bz xv)<|zc (vt T.bF xv)<|zh<|vt T.bx xv)
def nH:Nat->List D->Option D:=CH ["self","start","goal","time","behind"]
  (zR [0,1,2,3] (C (M 1)<|C (M 2)<|C (M 3)<|C (M 4) Å) mH)
theorem Wl (T:Txt K mg a w):dR P w K mg base fQ 2 a.k a.l ["self","start","goal","time","behind"] (yQ K a.ct [2] [0,0,0,0] nH) :=
 Fg (S:=mO [0,0,0,0]) (rk:=0) T.j.fn λ_ _ _ _ _ _ _ hr nd=>(zh<|QP (ns:=[0,0,0,0]) (ud T) (hr.mono<|by decide) T.b.mgx T.bt.sp T.bt.rd T.bt.fc T.i.fn.kp T.i.bd (by decide)<|za xv<|za xv<|za xv<|za xv ze)
def nG:Nat->List D->Option D:=CH ["self","start","goal","time","behind"]
  (zR [0,1,2,3] (C (M 1)<|C (M 2)<|C (M 3)<|C (M 4) Å) mH)
theorem Wm (T:Txt K mg a w):dR P w K mg base fQ 2 a.m a.n ["self","start","goal","time","behind"] (yQ K a.ct [3] [0,0,0,0] nG) :=
 Fg (S:=mO [0,0,0,0]) (rk:=0) T.l.fn λ_ _ _ _ _ _ _ hr nd=>(zh<|QP (ns:=[0,0,0,0]) (ud T) (hr.mono<|by decide) T.b.mgx T.bt.sp T.bt.rd T.bt.fc T.i.fn.kp T.i.bd (by decide)<|za xv<|za xv<|za xv<|za xv ze)
def lQ:List D->Option D:=Ï ["sign"]
  (É<|eB<|Ü (tb<|L vV (eC<|.str "a")<|M 0)<|tb<|L vV (M 0)<|eC<|.str "z")
theorem OD (T:Txt K mg a w):dR P w K mg base fQ 1 a.o a.p ["sign"] (iP K a.ct [0] 0 lQ) :=
 lf (S:=mO [0]) T.n.fn λ_ _ _ _ _ _ hr nd=>(zh<|jI<|jc (B9 (zl (n:=0)) xv)<|v8 (k:=0)<|B9 xv<|zl (n:=0))
def lP:List D->Option D:=Ï ["sign"]
  (É<|eB<|Ü (tb<|L vV (eC<|.str "0")<|M 0)<|tb<|L vV (M 0)<|eC<|.str "9")
theorem OE (T:Txt K mg a w):dR P w K mg base fQ 1 a.q a.r ["sign"] (iP K a.ct [0] 0 lP) :=
 lf (S:=mO [0]) T.o.fn λ_ _ _ _ _ _ hr nd=>(zh<|jI<|jc (B9 (zl (n:=0)) xv)<|v8 (k:=0)<|B9 xv<|zl (n:=0))
def m9:EF:=(fw (λY=>((M 0) Y).bind JL) 1 [] (gV 0) gW<|eB<|è (tb<|cl lQ<|C (M 0) Å)<|tb<|cl lP<|C (M 0) Å)
abbrev db:=eC<|.int 0
abbrev dl:=eC<|.int 1
abbrev ds:=É<|eC<|.bl Ã
def nS:List D->Option D:=Ï ["word"]
  (Ç (Ö (è (Û<|tb<|e1 (tW "str")<|M 0)<|è (tb<|L wQ (eN fV<|C (M 0) Å) dl)<|tb<|L uL (eN fV<|C (M 0) Å)<|eC<|.int 8) ds Ë)
  (É<|eB<|Ü (tb<|cl lQ<|C (L eG (M 0) db) Å)<|tb<|eN lV<|C m9 Å))
theorem Yn (T:Txt K mg a w):dR P w K mg base fQ 2 a.s a.t ["word"] (iP K a.ct [0] 0 nS) :=
 lf (S:=mO [0]) T.p.fn λ_ _ _ _ _ _ hr nd=>(zc (lZ (XW.t<|v7 (wa<|xn<|Fw (k:=0) (by decide) T.bN T.bU xi xv)<|v7 (AS (o6 T.bO<|za xv ze) ed)<|vp<|BQ (o6 T.bO<|za xv ze)<|DO T.b1)<|jI<|xu (n:=0))<|zh<|jI<|jc (xc T.n (OD T) hr<|za (ig xv ed) ze)<|v8 (k:=0)<|xo (k:=0) (ve rfl) j4 rfl T.bJ Fu<|za (fJ<|uD (N:=["sign"]) (om:=mO [0]) (cap:=[]) (own:=1) (XI.cc<|RC (n:=0) xv) (λ_ _ _ _ _ h=>(nM h)) (λ_ _ _ _ _=>yg)<|λ_ _ _ _ _=>(XE.ow<|Na (xc T.n (OD T) hr<|za xv ze)<|v8 (k:=0)<|xc T.o (OE T) hr<|za xv ze)) ze)
def qK:SF:=(Ç (Ö (è (Û<|tb<|cl nS<|C (M 2) Å)<|tb<|λY=>((M 2) Y).bind λx=>((M 1) Y).bind λy=>(lN y x).bind λr=>U<|.bl r.isSome) (É<|eC<|.bl Ã) Ë)
  (Ap 1 (M 2)<|eC<|.bl Â))
abbrev io:=É<|eC<|.bl Â
def pM:List D->Option D:=Ï ["names","seen","name"]
  (Ç (Ö (è (Û<|tb<|e1 (tW "list")<|M 0)<|è (tb<|L wQ (eN fV<|C (M 0) Å) dl)<|tb<|L uL (eN fV<|C (M 0) Å)<|eC<|.int 40) ds Ë)
  (Ç (È 1<|eC<|.dK [] [])
  (Ç (Ò (ß<|M 0) (gV 2) qK)
  io)))
theorem Xb (T:Txt K mg a w):dR P w K mg base fQ 3 a.u a.v ["names"] (iP K a.ct [0] 0 pM) :=
 lf (S:=mO [0,1,0]) T.q.fn λ_ _ _ _ _ _ hr nd=>(zc (lZ (XW.t<|v7 (wa<|xn<|Fw (k:=0) (by decide) T.bN T.bP Ht xv)<|v7 (AS (o6 T.bO<|za xv ze) ed)<|vp<|BQ (o6 T.bO<|za xv ze)<|DO T.bZ)<|jI<|xu (n:=0))<|zc (lR nd Qd)<|zc (xF (xz xv) (p9 nd)<|zc (lZ (XW.t<|v7 (wa<|xn<|xc T.p (Yn T) hr<|za xv ze)<|vp<|ů (C2 hr) xv xv<|by with_unfolding_all rfl)<|jI<|xu (n:=0))<|zh<|MF 1 rfl (C2 hr) xv<|xu (n:=0))<|zh<|jI<|xu (n:=0))
def ix:List D->Option D:=Ï ["number","least","most"]
  (Ç (Ö (è (Û<|tb<|e1 (tW "int")<|M 0)<|tb<|e1 (tW "bool")<|M 0) ds Ë)
  (É<|eB<|Ü (tb<|L vV (M 1)<|M 0)<|tb<|L vV (M 0)<|M 2))
theorem we (T:Txt K mg a w):dR P w K mg base fQ 1 a.x a.y ["number","least","most"] (iP K a.ct [0,0,0] 0 ix) :=
 lf (S:=mO [0,0,0]) T.r.fn λ_ _ _ _ _ _ hr nd=>(zc (lZ (XW.t<|v7 (wa<|xn<|Fw (k:=0) (by decide) T.bN T.bM x9 xv)<|vp<|xn<|Fw (k:=0) (by decide) T.bN T.bK ztq xv)<|jI<|xu (n:=0))<|zh<|jI<|jc (B9 xv xv)<|v8 (k:=0)<|B9 xv xv)
abbrev e2:=dH [0,1,2,3] "start"
abbrev eV:=dH [0,1,2,3] "behind"
abbrev gy:=dH [0,1,2,3] "time"
abbrev on:=dH [0,1,2,3] "goal"
def mK:List D->Option D:=Ï ["arrow","many","least","most"]
  (Ç (È 2<|î (tb<|e1 (CI [0,1,2,3,4,5,6] [3])<|M 0) dl db)
  (Ç (È 3<|î (tb<|e1 (CI [0,1,2,3,4,5,6] [1])<|M 0) db<|eC<|.int 4)
  (Ç (Ö (è (Û<|tb<|cl ix<|C (e1 e2<|M 0)<|C db<|C (L kx (M 1) dl) Å)<|Û<|tb<|cl ix<|C (e1 on<|M 0)<|C db<|C (L kx (M 1) dl) Å) ds Ë)
  (É<|eB<|Ü (tb<|cl ix<|C (e1 gy<|M 0)<|C db<|C (eC<|.int 1000000000) Å)<|tb<|cl ix<|C (e1 eV<|M 0)<|C (M 2)<|C (M 3) Å))))
theorem Xw (T:Txt K mg a w):dR P w K mg base fQ 2 a.z a.aa ["arrow","many"] (iP K a.ct [0,0] 0 mK) :=
 lf (S:=mO [0,0,0,0]) T.s.fn λ_ _ _ _ _ _ hr nd=>(zc (nr nd<|Cb (xn<|QT (k:=0) T.bH T.bN T.e.mgx xv) ed ed)<|zc (nr nd<|Cb (xn<|QT (k:=0) T.bI T.bN T.c.mgx xv) ed<|DO T.bX)<|zc (lZ (XW.t<|v7 (wa<|xn<|xc T.r (we T) hr<|za (jO xv T.bD)<|za ed<|za (oX xv ed) ze)<|vp<|wa<|xn<|xc T.r (we T) hr<|za (jO xv T.bz)<|za ed<|za (oX xv ed) ze)<|jI<|xu (n:=0))<|zh<|jI<|jc (xc T.r (we T) hr<|za (jO xv T.bF)<|za ed<|za (DO T.b2) ze)<|v8 (k:=0)<|xc T.r (we T) hr<|za (jO xv T.bx)<|za xv<|za xv ze)
def rD:SF:=(Ö (tb<|L (iI Ã) (e1 (dH [0,1,2,3] "start")<|M 4)<|M 7) (Ç (BO 3 (e1 (dH [0,1,2,3] "goal")<|M 4) (λi j=>i-j)<|eC<|.int 1)
  (Ö (tb<|L (iI Ã) (L eG (M 3)<|e1 (dH [0,1,2,3] "goal")<|M 4)<|eC<|.int 0) (å 5<|e1 (dH [0,1,2,3] "goal")<|M 4) Ë)) Ë)
def rE:SF:=(Ç (È 7<|L eG (M 5)<|M 6)
  (Ç (Ò (ß<|M 2) (gV 4) rD)
  (CT 6 (i2 λi j=>.int<|i+j)<|eC<|.int 1)))
def rN:EF:=(fw (λY=>((C (M 0) Å) Y).bind lA) 1 [3] (gV 0) (tb<|L (iI Ã) (L eG (M 1)<|M 0)<|eC<|.int 0)<|M 0)
def rF:SF:=(BO 3 (e1 (dH [0,1,2,3] "goal")<|M 4) (λi j=>i+j)<|eC<|.int 1)
abbrev gf:=iI Ã
abbrev im:=gV 0
def rO:EF:=(fw (ß<|M 1) 1 [] im (tb<|L gf (e1 eV<|M 0) db)<|M 0)
def kG:List D->Option D:=Ï ["many","arrows","within","waited","arrow","placed","done","here"]
  (Ç (È 2 rO)
  (Ç (È 3<|L wC (λY=>((C (eC<|.int 0) Å) Y).bind λO=>U<|.lst O)<|M 0)
  (Ç (Ò (ß<|M 2) (gV 4) rF)
  (Ç (È 5 rN)
  (Ç (È 6<|eC<|.int 0)
  (Ç (qX (tb<|L wQ (M 6)<|eN fV<|C (M 5) Å) rE)
  (É<|M 5)))))))
theorem vw (T:Txt K mg a w):dR P w K mg base fQ 1 a.ab a.ac ["many","arrows"] (iP K a.ct [0,0] 0 kG) :=
 lf (S:=mO [0,0,0,1,0,1,0,0]) T.t.fn λ_ _ _ _ _ _ hr nd=>(zc (Bb (k:=0) (N:=["arrow"]) (om:=mO [0]) (cap:=[]) (own:=1) nd (yp (n:=0) xv) (λ_ _ _ _ _ h=>(nM h)) (λ_ _ _ _ _=>(wq<|tJ hr (jO xv T.bx) ed))<|λ_ _ _ _ _=>(XE.ow xv))<|zc (lR nd<|HE (yb (k:=0)<|zj (XE.ow ed) zt) xv)<|zc (xF (xz xv) (p9 nd)<|zh<|QS 3 MT rfl (jO xv T.bz) ed)<|zc (Bb (k:=1) (N:=["going","waited"]) (om:=mO [0]) (cap:=[3]) (own:=1) nd (XI.cc<|yk (n:=0) T.bR<|za xv ze) (λ_ _ _ _ _ h=>(nM h)) (λ_ _ _ _ _=>(wq<|tJ hr (B6 xv xv) ed))<|λ_ _ _ _ _=>(XE.ow xv))<|zc (nr nd ed)<|zc (IE (AS xv<|o6 T.bO<|za xv ze)<|zc (nr nd<|B6 xv xv)<|zc (xF (xz xv) (p9 nd)<|zh<|FD (tJ hr (jO xv T.bD) xv) (zc (QS 3 Rp rfl (jO xv T.bz) ed)<|zh<|lZ (tJ hr (B6 xv<|jO xv T.bz) ed)<|x6 5 rfl<|XE.ow<|jO xv T.bz) wb)<|zh<|MZ MT rfl nd rfl (Or.inl rfl) ed)<|zh<|Hv (i:=5) rfl)
def vS:SF:=(Ç (å 5<|λY=>((M 1) Y).bind λx=>((M 4) Y).bind λy=>(lN x y).join)
  (È 4<|e1 (dH [0,1,2,3] "start")<|L eG (M 0)<|λY=>((M 1) Y).bind λx=>((M 4) Y).bind λy=>(lN x y).join))
def tX:List D->Option D:=Ï ["arrows","chosen","start","goal","here","way"]
  (Ç (È 4<|M 3)
  (Ç (È 5<|λY=>(Å Y).bind λO=>U<|.lst O)
  (Ç (qX (tb<|L (iI Â) (M 4)<|M 2) vS)
  (É<|e1 Dz<|M 5))))
theorem Xx (T:Txt K mg a w):dR P w K mg base fQ 1 a.ad a.ae ["arrows","chosen","start","goal"] (iP K a.ct [0,0,0,0] 0 tX) :=
 lf (S:=mO [0,0,0,0,0,1]) T.u.fn λ_ _ _ _ _ _ hr nd=>(zc (nr nd xv)<|zc (lR nd<|yb (k:=0) zt)<|zc (IE (Hh hr xv xv)<|zc (x6 5 rfl<|XE.ow<|Ry (C2 hr) (vn 1 0) (vn 4 0)<|λ_ _=>rfl)<|zh<|nr nd<|jO (ig xv<|Ry (C2 hr) (vn 1 0) (vn 4 0)<|λ_ _=>rfl) T.bD)<|zh<|xj<|pw<|zuu (n:=1) (by decide) rfl rfl T.bP rfl T.bS xv)
def mC:SF:=(Ö (Û<|tb<|cl mK<|C (M 4)<|C (eN fV<|C (M 1) Å) Å) Ø Ë)
def gB:Nat->List D->Option D:=CH ["self","names","arrows","number","arrow","placed"]
  (Ç (Ö (è (Û<|tb<|cl pM<|C (M 1) Å)<|tb<|L uL (eN fV<|C (M 2) Å)<|eC<|.int 120) Ø Ë)
  (Ç (Ò (λY=>((C (M 2) Å) Y).bind λO=>match O with|[.lst xs]=>U (iC 0 xs)|_=>G) (gT<|Í (gV 3)<|Í (gV 4) Ù) mC)
  (Ç (È 5<|cl kG<|C (eN fV<|C (M 1) Å)<|C (M 2) Å)
  (Ç (Ö (tb<|L wQ (eN fV<|C (M 5) Å)<|eN fV<|C (M 1) Å) Ø Ë)
  (Ç (mP [4] "names" (eN Aj<|C (M 1) Å))
  (mP [4] "arrows" (eN Aj<|C (M 2) Å)))))))
theorem jp (T:Txt K mg a w):dR P w K mg base fQ 4 a.af a.ag ["self","names","arrows"] (yQ K a.ct [4] [0,0] gB) :=
 Fg (S:=mO [0,0,0,0,0]) (rk:=0) T.v.fn λ_ _ _ _ _ _ _ hr nd=>(zc (lZ (XW.t<|v7 (wa<|xn<|xc T.q (Xb T) hr<|za xv ze)<|vp<|BQ (o6 T.bO<|za xv ze)<|DO T.bW) xp)<|zc (xF (MC T.bL<|za xv ze) (Hz (n:=1) rfl<|xw (p9 nd)<|xw (p9 nd) Hu)<|zh<|lZ (wa<|xn<|xc T.s (Xw T) hr<|za xv<|za (o6 T.bO<|za xv ze) ze) xp)<|zc (lR nd<|jG T.t (vw T) hr<|za (o6 T.bO<|za xv ze)<|za xv ze)<|zc (lZ (AS (o6 T.bO<|za xv ze)<|o6 T.bO<|za xv ze) xp)<|zc (vt T.bA<|fJ<|LQ v6 (LW (n:=0)<|by decide) rfl T.bP Ht<|za xv ze)<|zh<|vt T.bv<|fJ<|LQ v6 (LW (n:=0)<|by decide) rfl T.bP Ht<|za xv ze)
abbrev f8:=dH [4] "arrows"
def qE:EF:=(fw (ß<|e1 f8<|M 0) 1 [] im gW<|e1 eV<|M 0)
def e9:List D->Option D:=Ï ["self"]
  (É<|eN tY<|C (L dL (λY=>((C (eC<|.int 1) Å) Y).bind λO=>U<|.lst O) qE) Å)
theorem yf (T:Txt K mg a w):dR P w K mg base fQ 1 a.ah a.ai ["self"] (iP K a.ct [0] 0 e9) :=
 lf (S:=mO [0]) T.x.fn λ_ _ _ _ _ _ hr nd=>(zh<|jI<|xo (k:=0) (jh rfl) IY rfl T.bQ qv<|za (fJ<|iN (fJ<|yb (k:=0)<|zj (XE.ow ed) zt)<|fJ<|uD (N:=["arrow"]) (om:=mO [0]) (cap:=[]) (own:=1) (yp (n:=0)<|jO xv T.bv) (λ_ _ _ _ _ h=>(nM h)) (λ_ _ _ _ _=>yg)<|λ_ _ _ _ _=>(XE.ow<|jO xv T.bx)) ze)
def wA:EF:=(fw (λY=>((C (e1 (dH [4] "arrows")<|M 0) Å) Y).bind λO=>match O with|[.lst xs]=>U (iC 0 xs)|_=>G) 2 [1] (gT<|Í (gV 0)<|Í (gV 1) Ù) (tb<|L (iI Ã) (e1 (dH [0,1,2,3] "goal")<|M 1)<|M 2)<|M 0)
def mI:List D->Option D:=Ï ["self","going"]
  (É wA)
theorem vk (T:Txt K mg a w):dR P w K mg base fQ 1 a.aj a.ak ["self","going"] (iP K a.ct [0,0] 0 mI) :=
 lf (S:=mO [0,0]) T.y.fn λ_ _ _ _ _ _ hr nd=>(zh<|xj<|pw<|uD (N:=["number","arrow","going"]) (om:=mO [0,0]) (cap:=[1]) (own:=2) (LV (n:=0) T.bL<|za (jO xv T.bv) ze) (λ_ _ _ _ _ h=>(u4 (n:=1) rfl<|yo (nM h)<|yo (nM h) vh)) (λ_ _ _ _ _=>(wq<|tJ hr (jO xv T.bz) xv))<|λ_ _ _ _ _=>(XE.ow xv))
abbrev ge:=dH [4] "names"
def pL:List D->Option D:=Ï ["self"]
  (É<|cl kG<|C (eN fV<|C (e1 ge<|M 0) Å)<|C (e1 f8<|M 0) Å)
theorem OF (T:Txt K mg a w):dR P w K mg base fQ 2 a.al a.am ["self"] (iP K a.ct [0] 0 pL) :=
 lf (S:=mO [0]) T.z.fn λ_ _ _ _ _ _ hr nd=>(zh<|xj<|jG T.t (vw T) hr<|za (o6 T.bO<|za (jO xv T.bA) ze)<|za (jO xv T.bv) ze)
def kr:EF:=(fw (λY=>((M 0) Y).bind JL) 1 [] (gV 0) gW<|cl lP<|C (M 0) Å)
def jQ:List D->Option D:=Ï ["word"]
  (Ç (Ö (è (tb<|L wQ (eN fV<|C (M 0) Å) dl)<|è (tb<|L uL (eN fV<|C (M 0) Å)<|eC<|.int 15)<|Û<|tb<|eN lV<|C kr Å) ds Ë)
  (É<|eB<|è (tb<|L gf (M 0)<|eC<|.str "0")<|tb<|L (iI Â) (L eG (M 0) db)<|eC<|.str "0"))
theorem OG (T:Txt K mg a w):dR P w K mg base fQ 2 a.an a.ao ["word"] (iP K a.ct [0] 0 jQ) :=
 lf (S:=mO [0]) T.aa.fn λ_ _ _ _ _ _ hr nd=>(zc (lZ (XW.t<|v7 (AS (o6 T.bO<|za xv ze) ed)<|v7 (BQ (o6 T.bO<|za xv ze)<|DO T.bY)<|vp<|wa<|xn<|xo (k:=0) (ve rfl) j4 rfl T.bJ Fu<|za (fJ<|uD (N:=["sign"]) (om:=mO [0]) (cap:=[]) (own:=1) (XI.cc<|RC (n:=0) xv) (λ_ _ _ _ _ h=>(nM h)) (λ_ _ _ _ _=>yg)<|λ_ _ _ _ _=>(jG T.o (OE T) hr<|za xv ze)) ze)<|jI<|xu (n:=0))<|zh<|jI<|Na (Ą hr xv<|zl (n:=0))<|v8 (k:=0)<|Ve hr (ig xv ed)<|zl (n:=0))
def kI:EF:=(fw (ß<|M 0) 1 [] im gW<|cl jQ<|C (M 0) Å)
def km:List D->Option D:=Ï ["words"]
  (É<|eN lV<|C kI Å)
theorem u0 (T:Txt K mg a w):dR P w K mg base fQ 3 a.ap a.aq ["words"] (iP K a.ct [0] 0 km) :=
 lf (S:=mO [0]) T.ab.fn λ_ _ _ _ _ _ hr nd=>(zh<|jI<|xo (k:=0) (ve rfl) j4 rfl T.bJ Fu<|za (fJ<|uD (N:=["word"]) (om:=mO [0]) (cap:=[]) (own:=1) (yp (n:=0) xv) (λ_ _ _ _ _ h=>(nM h)) (λ_ _ _ _ _=>yg)<|λ_ _ _ _ _=>(jG T.aa (OG T) hr<|za xv ze)) ze)
def gH:List D->Option D:=Ï ["words"]
  (Ç (Ö (tb<|L (iI Ã) (L eG (M 0)<|eC<|.int 0)<|eC<|.str "ride") Ø Ë)
  (Ç (Ö (è (tb<|L (iI Ã) (L eG (M 0)<|eC<|.int 0)<|eC<|.str "wait")<|tb<|L (iI Ã) (L eG (M 0)<|eC<|.int 0)<|eC<|.str "back") (É<|eB<|Ü (tb<|L (iI Ã) (eN fV<|C (M 0) Å)<|eC<|.int 5)<|tb<|cl km<|C (λY=>((M 0) Y).bind λd=>((à<|eC<|.int 3) Y).bind λl=>(ð Y).bind λh=>gP d l h) Å) Ë)
  (Ç (Ö (tb<|L (iI Ã) (L eG (M 0)<|eC<|.int 0)<|eC<|.str "line") Ø Ë)
  (É<|eC<|.bl Ã))))
theorem j8 (T:Txt K mg a w):dR P w K mg base fQ 4 a.ar a.au ["words"] (iP K a.ct [0] 0 gH) :=
 lf (S:=mO [0]) T.ac.fn λ_ _ _ _ _ _ hr nd=>(zc (lZ (tJ hr (ig xv ed)<|zl (n:=0)) xp)<|zc (lZ (XW.t<|v7 (tJ hr (ig xv ed)<|zl (n:=0))<|vp<|tJ hr (ig xv ed)<|zl (n:=0))<|jI<|jc (Ą hr (o6 T.bO<|za xv ze) ed)<|v8 (k:=0)<|xc T.ab (u0 T) hr<|za (fJ<|wd (n:=0) (by decide) xv (wj ed) Cc) ze)<|zc (lZ (tJ hr (ig xv ed)<|zl (n:=0)) xp)<|zh<|jI<|xu (n:=0))
def lh:List D->Option D:=Ï ["words"]
  (É<|î (tb<|L (iI Ã) (L eG (M 0)<|eC<|.int 0)<|eC<|.str "line") yY<|λY=>((M 0) Y).bind λd=>((à<|eC<|.int 1) Y).bind λl=>((à<|eC<|.int 3) Y).bind λh=>gP d l h)
theorem VW (T:Txt K mg a w):dR P w K mg base fQ 1 a.av a.aw ["words"] (iP K a.ct [0] 0 lh) :=
 lf (S:=mO [0]) T.ad.fn λ_ _ _ _ _ _ hr nd=>(zh<|jI<|Cb (tJ hr (ig xv ed)<|zl (n:=0)) (P1 (n:=0))<|fJ<|wd (n:=0) (by decide) xv (wj ed)<|wj ed)
def iS:SF:=(Ö (tb<|L (ñ Â) (M 2)<|M 1) Ø Ë)
def gI:List D->Option D:=Ï ["told","names","name"]
  (Ò (ß<|M 0) (gV 2) iS)
theorem j9 (T:Txt K mg a w):dR P w K mg base fQ 1 a.ax a.ay ["told","names"] (iP K a.ct [0,0] 0 gI) :=
 lf (S:=mO [0,0,0]) T.ae.fn λ_ _ _ _ _ _ hr nd=>(zh<|xF (xz xv) (p9 nd)<|zh<|lZ (vo (k:=0) wv HA xv xv<|by with_unfolding_all rfl) xp)
def lc:List D->Option D:=Ï ["words","names","start","goal"]
  (Ç (È 2<|L xM (M 1)<|L eG (M 0) dl)
  (Ç (È 3<|L xM (M 1)<|L eG (M 0)<|eC<|.int 2)
  (Ç (Ö (tb<|L gf (L eG (M 0) db)<|eC<|.str "ride") Ø Ë)
  (Ç (Ö (tb<|L gf (L eG (M 0) db)<|eC<|.str "wait") (É<|cl (nH 2)<|C (M 2)<|C (M 3)<|C (eN jP<|C (L eG (M 0)<|eC<|.int 3) Å)<|C (eN jP<|C (L eG (M 0)<|eC<|.int 4) Å) Å) Ë)
  (É<|cl (nG 3)<|C (M 2)<|C (M 3)<|C (eN jP<|C (L eG (M 0)<|eC<|.int 3) Å)<|C (eN jP<|C (L eG (M 0)<|eC<|.int 4) Å) Å)))))
theorem VX (T:Txt K mg a w):dR P w K mg base fQ 4 a.az a.aA ["words","names"] (iP K a.ct [0,0] 0 lc) :=
 lf (S:=mO [0,0,0,0]) T.af.fn λ_ _ _ _ _ _ hr nd=>(zc (nr nd<|Me (k:=0) xv<|ig xv ed)<|zc (nr nd<|Me (k:=0) xv<|ig xv ed)<|zc (lZ (tJ hr (ig xv ed)<|zl (n:=0)) xp)<|zc (lZ (tJ hr (ig xv ed)<|zl (n:=0))<|xj<|pw<|Hq T.d T.j (Wl T) hr<|za xv<|za xv<|za (zm (k:=0) yj yy rfl T.bM x9<|za (ig xv ed) ze)<|za (zm (k:=0) yj yy rfl T.bM x9<|za (ig xv ed) ze) ze)<|zh<|xj<|pw<|Hq T.e T.l (Wm T) hr<|za xv<|za xv<|za (zm (k:=0) yj yy rfl T.bM x9<|za (ig xv ed) ze)<|za (zm (k:=0) yj yy rfl T.bM x9<|za (ig xv ed) ze) ze)
def i6:List D->Option D:=Ï ["words","names"]
  (Ç (Ö (tb<|L (iI Ã) (L eG (M 0)<|eC<|.int 0)<|eC<|.str "line") Ø Ë)
  (É<|λY=>((C (cl lc<|C (M 0)<|C (M 1) Å) Å) Y).bind λO=>U<|.lst O))
theorem VQ (T:Txt K mg a w):dR P w K mg base fQ 5 a.aB a.aC ["words","names"] (iP K a.ct [0,0] 1 i6) :=
 lf (S:=mO [0,0]) T.ag.fn λ_ _ _ _ _ _ hr nd=>(zc (lZ (tJ hr (ig xv ed)<|zl (n:=0)) xp)<|zh<|xj<|yb (k:=0)<|zj (jG T.af (VX T) hr<|za xv<|za xv ze) zt)
abbrev fg:=eC .non
abbrev r6:=qM Ã
def tP:List D->Option D:=Ï ["when","more"]
  (Ç (Ö (tb<|L r6 (M 0) fg) (É fg) Ë)
  (É<|L dL (M 0)<|M 1))
theorem zqt (T:Txt K mg a w):dR P w K mg base fQ 1 a.aD a.aE ["when","more"] (iP K a.ct [0,0] 0 tP) :=
 lf (S:=mO [0,0]) T.ah.fn λ_ _ _ _ _ _ hr nd=>(zc (lZ (zT xv rq)<|jI rq)<|zh<|xj<|pw<|iN xv xv)
def pN:List D->Option D:=Ï ["one","other"]
  (Ç (Ö (tb<|L r6 (M 0) fg) (É<|M 1) Ë)
  (Ç (Ö (tb<|L r6 (M 1) fg) (É<|M 0) Ë)
  (É<|eN vJ<|C (M 0)<|C (M 1) Å)))
theorem PB (T:Txt K mg a w):dR P w K mg base fQ 1 a.aF a.aG ["one","other"] (iP K a.ct [0,0] 0 pN) :=
 lf (S:=mO [0,0]) T.ai.fn λ_ _ _ _ _ _ hr nd=>(zc (lZ (zT xv rq)<|jI xv)<|zc (lZ (zT xv rq)<|jI xv)<|zh<|jI<|xo (k:=0) (LL rfl) LX rfl T.bQ qv<|za xv<|za xv ze)
def rC:SF:=(Ap 1 (λY=>((C (M 2)<|C (M 3) Å) Y).bind λO=>U<|.tup O)<|cl pN<|C (λY=>((M 1) Y).bind λx=>((λY=>((C (M 2)<|C (M 3) Å) Y).bind λO=>U<|.tup O) Y).bind λy=>(lN x y).bind λr=>U<|r.getD .non)<|C (M 4) Å)
def gY:List D->Option D:=Ï ["told","greatest","going","number","amount"]
  (Ç (È 1<|eC<|.dT [] [])
  (Ç (Ò (ß<|M 0) (gT<|Í (gV 2)<|Í (gV 3)<|Í (gV 4) Ù) rC)
  (É<|M 1)))
theorem vx (T:Txt K mg a w):dR P w K mg base fQ 2 a.aH a.aI ["told"] (iP K a.ct [1] 0 gY) :=
 lf (S:=[.al 1,.ow 1,.ow 0,.ow 0,.ow 0]) T.aj.fn λ_ _ _ _ _ _ hr nd=>(zc (lR nd ZO)<|zc (xF (zuc 0) (Hz (n:=0) rfl<|xw (p9 nd)<|xw (p9 nd)<|xw (p9 nd) Hu)<|zh<|MF 1 rfl (C2 hr) (fJ<|qx<|zj (XE.ow xv)<|zj (XE.ow xv) zt)<|xc T.ai (PB T) hr<|za (QL (n:=1) (C2 hr) (vn 1 1) (fJ<|qx<|zj (XE.ow xv)<|zj (XE.ow xv) zt) ⟨rfl,rfl,rfl,rfl⟩)<|za xv ze)<|zh<|Hv (i:=1) rfl)
def t4:EF:=(fw (λY=>((C (M 2) Å) Y).bind lA) 1 [0] (gV 0) gW<|L wC (λY=>((C (eC<|.int 0) Å) Y).bind λO=>U<|.lst O)<|eN fV<|C (e1 (dH [4] "names")<|M 1) Å)
def rM:List D->Option D:=Ï ["net","was","depth"]
  (Ç (È 2<|λY=>((M 0) Y).bind λo=>ko 4 "most_behind" e9 o [])
  (Ç (Ö (tb<|L (qM Ã) (M 1)<|eC .non) (É t4) Ë)
  Ø))
theorem Wz (T:Txt K mg a w):dR P w K mg base fQ 2 a.aJ a.aK ["net","was"] (iP K a.ct [0,0] 2 rM) :=
 lf (S:=mO [0,0,0]) T.ak.fn λ_ _ _ _ _ _ hr nd=>(zc (lR nd<|xy (n:=0) (c0:=4) (nd:=[]) (pH:=[]) xv T.f.cl T.x.me (yf T) (hr.mono<|by decide) T.x.bd .nil<|λ_ _=>.nil)<|zc (lZ (zT xv rq)<|xj<|uD (N:=["number","net"]) (om:=mO [0]) (cap:=[0]) (own:=1) (XI.cc<|yk (n:=0) T.bR<|za xv ze) (λ_ _ _ _ _ h=>(nM h)) (λ_ _ _ _ _=>yg)<|λ_ _ _ _ _=>(HE (yb (k:=0)<|zj (XE.ow ed) zt)<|o6 T.bO<|za (jO xv T.bA) ze))<|zh xp)
def eK:SF:=(Ç (È 6<|L eG (e1 f8<|M 0)<|M 5)
  (È 4<|cl pN<|C (M 4)<|C (cl tP<|C (L eG (L eG (M 1)<|L kx (e1 vX dl)<|e1 eV<|M 6)<|e1 e2<|M 6)<|C (e1 gy<|M 6) Å) Å))
def gp:List D->Option D:=Ï ["net","rows","numbers","floor","when","number","arrow"]
  (Ç (È 4<|M 3)
  (Ç (Ò (ß<|M 2) (gV 5) eK)
  (É<|M 4)))
theorem u7 (T:Txt K mg a w):dR P w K mg base fQ 2 a.aL a.aM ["net","rows","numbers","floor"] (iP K a.ct [0,2,0,0] 0 gp) :=
 lf (S:=[.ow 0,.al 2,.ow 0,.ow 0,.ow 0,.ow 0,.ow 0]) T.al.fn λ_ _ _ _ _ _ hr nd=>(zc (nr nd xv)<|zc (xF (xz xv) (p9 nd)<|zc (nr nd<|ig (jO xv T.bv) xv)<|zh<|lR nd<|jG T.ai (PB T) hr<|za xv<|za (xc T.ah (zqt T) hr<|za (B6 (FB (n:=2) qp EU (vn 1 2) (oX (Fv (k:=0) ed)<|jO xv T.bx)<|λ_ _=>rfl)<|jO xv T.bD)<|za (jO xv T.bF) ze) ze)<|zh<|jI xv)
def mF:SF:=(Ç (È 10<|λY=>((M 5) Y).bind λx=>((λY=>((C (M 9)<|C (M 8) Å) Y).bind λO=>U<|.tup O) Y).bind λy=>(lN x y).bind λr=>U<|r.getD .non)
  (uA 4 (e1 vX<|eC<|.int 1) (M 9)<|cl gp<|C (M 0)<|C (M 4)<|C (L eG (M 6)<|M 9)<|C (M 10) Å))
def gn:SF:=(Ç (å 4<|L wC (λY=>((C (eC .non) Å) Y).bind λO=>U<|.lst O)<|eN fV<|C (e1 (dH [4] "names")<|M 0) Å)
  (Ò (ß<|M 7) (gV 9) mF))
def qW:EF:=(fw (λY=>((C (eN fV<|C (e1 (dH [4] "names")<|M 0) Å) Å) Y).bind lA) 1 [0] (gV 0) gW<|λY=>((M 1) Y).bind λo=>((C (M 0) Å) Y).bind λO=>ko 4 "into" mI o (O++[]))
def jW:List D->Option D:=Ï ["net","rounds","was","floors","rows","greatest","numbers","order","number","going","floor"]
  (Ç (È 4<|cl rM<|C (M 0)<|C (M 2) Å)
  (Ç (È 5<|cl gY<|C (î (tb<|L (qM Ã) (M 3)<|eC .non) (λY=>(Å Y).bind λO=>U<|.lst O)<|M 3) Å)
  (Ç (È 6 qW)
  (Ç (È 7<|λY=>((M 0) Y).bind λo=>ko 4 "order" pL o [])
  (Ç (Ò (λY=>((C (M 1) Å) Y).bind lA) (gV 8) gn)
  (É<|M 4))))))
theorem qd (T:Txt K mg a w):dR P w K mg base fQ 3 a.aN a.aO ["net","rounds","was","floors"] (iP K a.ct [0,0,0,0] 0 jW) :=
 lf (S:=mO [0,0,0,0,2,0,0,0,0,0,0]) T.am.fn λ_ _ _ _ _ _ hr nd=>(zc (lR nd<|jG T.ak (Wz T) hr<|za xv<|za xv ze)<|zc (lR nd<|jG T.aj (vx T) hr<|za (XE.up (Cb (zT xv rq) (fJ<|yb (k:=0) zt) xv) (by decide:0<=1)) ze)<|zc (Bb (k:=0) (N:=["going","net"]) (om:=mO [0]) (cap:=[0]) (own:=1) nd (XI.cc<|yk (n:=0) T.bR<|za (o6 T.bO<|za (jO xv T.bA) ze) ze) (λ_ _ _ _ _ h=>(nM h)) (λ_ _ _ _ _=>yg)<|λ_ _ _ _ _=>(u3 (n:=0) (c0:=4) (ns:=[0]) (nd:=[]) (pH:=[]) xv T.f.cl T.y.me (vk T) (hr.mono<|by decide) T.y.bd .nil (λ_ _=>.nil)<|za xv ze))<|zc (lR nd<|xy (n:=0) (c0:=4) (nd:=[]) (pH:=[]) xv T.f.cl T.z.me (OF T) (hr.mono<|by decide) T.z.bd .nil<|λ_ _=>.nil)<|zc (xF (yk (n:=0) T.bR<|za xv ze) (p9 nd)<|zc (x6 4 rfl<|HE (yb (k:=0)<|zj (XE.ow rq) zt)<|o6 T.bO<|za (jO xv T.bA) ze)<|zh<|xF (xz xv) (p9 nd)<|zc (nr nd<|QL (n:=0) (C2 hr) (vn 5 0) (fJ<|qx<|zj (XE.ow xv)<|zj (XE.ow xv) zt) ⟨rfl,rfl,rfl,rfl⟩)<|zh<|Ql 4 rfl (Fv (k:=0) ed) xv (λ_ _=>rfl)<|xc T.al (u7 T) hr<|za xv<|za xv<|za (ig xv xv)<|za xv ze)<|zh<|Hv (i:=4) rfl)
def vI:List D->Option D:=Ï ["net","rounds","was","floors"]
  (É<|λY=>((cl jW<|C (M 0)<|C (M 1)<|C (M 2)<|C (M 3) Å) Y).bind λd=>((à<|λY=>((M 0) Y).bind λo=>ko 4 "most_behind" e9 o []) Y).bind λl=>(ð Y).bind λh=>gP d l h)
theorem RI (T:Txt K mg a w):dR P w K mg base fQ 4 a.aP a.aQ ["net","rounds","was","floors"] (iP K a.ct [0,0,0,0] 0 vI) :=
 lf (S:=mO [0,0,0,0]) T.an.fn λ_ _ _ _ _ _ hr nd=>(zh<|xj<|pw<|wd (n:=0) (by decide) (xc T.am (qd T) hr<|za xv<|za xv<|za xv<|za xv ze) (wj<|fJ<|xy (n:=0) (c0:=4) (nd:=[]) (pH:=[]) xv T.f.cl T.x.me (yf T) (hr.mono<|by decide) T.x.bd .nil<|λ_ _=>.nil) Cc)
def qV:EF:=(fw (λY=>((C (L eG (M 0)<|M 1)<|C (L eG (M 0)<|L dL (M 1)<|M 2) Å) Y).bind BS) 2 [] (gT<|Í (gV 0)<|Í (gV 1) Ù) gW<|L kx (M 1)<|M 0)
def lg:List D->Option D:=Ï ["rows","first","count"]
  (É qV)
theorem LN (T:Txt K mg a w):dR P w K mg base fQ 1 a.aR a.aS ["rows","first","count"] (iP K a.ct [0,0,0] 1 lg) :=
 lf (S:=mO [0,0,0]) T.aq.fn λ_ _ _ _ _ _ hr nd=>(zh<|xj<|uD (N:=["before","after"]) (om:=mO [0,0]) (cap:=[]) (own:=2) (zuq (n:=0) T.bV<|za (ig xv xv)<|za (ig xv<|fJ<|iN xv xv) ze) (λ_ _ _ _ _ h=>(u4 (n:=1) rfl<|yo (nM h)<|yo (nM h) vh)) (λ_ _ _ _ _=>yg)<|λ_ _ _ _ _=>(XE.ow<|oX xv xv))
def mr:EF:=(fw (λY=>((C (M 1)<|C (L dL (M 2)<|eC<|.int 1) Å) Y).bind t7) 1 [0,3,4] (gV 0) gW<|L (iI Ã) (cl lg<|C (M 1)<|C (M 0)<|C (M 2) Å)<|M 3)
def oo:List D->Option D:=Ï ["rows","first","last","count","lengths"]
  (É<|eN lV<|C mr Å)
theorem Xy (T:Txt K mg a w):dR P w K mg base fQ 2 a.aT a.aU ["rows","first","last","count","lengths"] (iP K a.ct [0,0,0,0,1] 0 oo) :=
 lf (S:=[.ow 0,.ow 0,.ow 0,.ow 0,.al 1]) T.ar.fn λ_ _ _ _ _ _ hr nd=>(zh<|jI<|xo (k:=0) (ve rfl) j4 rfl T.bJ Fu<|za (fJ<|uD (N:=["number","rows","count","lengths"]) (om:=mO [0]) (cap:=[0,3,4]) (own:=1) (XI.cc<|LR (n:=0) T.bR<|za xv<|za (fJ<|iN xv ed) ze) (λ_ _ _ _ _ h=>(nM h)) (λ_ _ _ _ _=>yg)<|λ_ _ _ _ _=>(XE.ow<|Ą hr (xc T.aq (LN T) hr<|za xv<|za xv<|za xv ze) xv)) ze)
def iW:EF:=(fw (ß<|e1 f8<|M 0) 1 [1] im gW<|L vV (L eG (M 1)<|e1 e2<|M 0)<|L eG (M 1)<|e1 on<|M 0)
def jV:List D->Option D:=Ï ["net","lengths"]
  (É<|eN lV<|C iW Å)
theorem qf (T:Txt K mg a w):dR P w K mg base fQ 1 a.aV a.aW ["net","lengths"] (iP K a.ct [0,1] 0 jV) :=
 lf (S:=[.ow 0,.al 1]) T.au.fn λ_ _ _ _ _ _ hr nd=>(zh<|jI<|xo (k:=0) (ve rfl) j4 rfl T.bJ Fu<|za (fJ<|uD (N:=["arrow","lengths"]) (om:=mO [0]) (cap:=[1]) (own:=1) (yp (n:=0)<|jO xv T.bv) (λ_ _ _ _ _ h=>(nM h)) (λ_ _ _ _ _=>yg)<|λ_ _ _ _ _=>(XE.ow<|B9 (B6 xv<|jO xv T.bD)<|B6 xv<|jO xv T.bz)) ze)
def jM:SF:=(Ö (tb<|L gf (L dL (L eG (L eG (M 0)<|L kx (M 3)<|e1 eV<|M 4)<|e1 e2<|M 4)<|e1 gy<|M 4)<|L eG (L eG (M 0)<|M 3)<|M 2) io Ë)
def hW:List D->Option D:=Ï ["rows","carriers","going","number","arrow"]
  (Ç (Ò (ß<|M 1) (gV 4) jM)
  ds)
theorem WB (T:Txt K mg a w):dR P w K mg base fQ 1 a.aX a.aY ["rows","carriers","going","number"] (iP K a.ct [0,0,0,0] 0 hW) :=
 lf (S:=mO [0,0,0,0,0]) T.av.fn λ_ _ _ _ _ _ hr nd=>(zc (xF (xz xv) (p9 nd)<|zh<|lZ (tJ hr (fJ<|iN (ig (ig xv<|oX xv<|jO xv T.bx)<|jO xv T.bD)<|jO xv T.bF)<|ig (ig xv xv) xv)<|jI<|xu (n:=0))<|zh<|jI<|xu (n:=0))
def oA:SF:=(Ö (Û<|tb<|cl hW<|C (M 1)<|C (M 7)<|C (M 5)<|C (M 8) Å) ds Ë)
def oI:EF:=(fw (ß<|M 6) 1 [4,5] im (tb<|L gf (L eG (M 1)<|e1 e2<|M 0)<|L eG (M 1)<|M 2)<|M 0)
def oJ:EF:=(fw (ß<|λY=>((M 0) Y).bind λo=>((C (M 5) Å) Y).bind λO=>ko 4 "into" mI o (O++[])) 1 [0] (gV 0) gW<|L eG (e1 (dH [4] "arrows")<|M 1)<|M 0)
def kB:SF:=(Ç (È 6 oJ)
  (Ç (È 7 oI)
  (Ò (λY=>((C (M 2)<|C (L dL (M 3)<|eC<|.int 1) Å) Y).bind t7) (gV 8) oA)))
def kl:List D->Option D:=Ï ["net","rows","first","last","lengths","going","entering","carriers","number"]
  (Ç (Ò (λY=>((C (eN fV<|C (e1 (dH [4] "names")<|M 0) Å) Å) Y).bind lA) (gV 5) kB)
  (É<|eC<|.bl Â))
theorem Wn (T:Txt K mg a w):dR P w K mg base fQ 2 a.aZ a.a0 ["net","rows","first","last","lengths"] (iP K a.ct [0,0,0,0,1] 0 kl) :=
 lf (S:=[.ow 0,.ow 0,.ow 0,.ow 0,.al 1,.ow 0,.ow 0,.ow 0,.ow 0]) T.aw.fn λ_ _ _ _ _ _ hr nd=>(zc (xF (yk (n:=0) T.bR<|za (o6 T.bO<|za (jO xv T.bA) ze) ze) (p9 nd)<|zc (Bb (k:=0) (N:=["number","net"]) (om:=mO [0]) (cap:=[0]) (own:=1) nd (yp (n:=0)<|fJ<|u3 (n:=0) (c0:=4) (ns:=[0]) (nd:=[]) (pH:=[]) xv T.f.cl T.y.me (vk T) (hr.mono<|by decide) T.y.bd .nil (λ_ _=>.nil)<|za xv ze) (λ_ _ _ _ _ h=>(nM h)) (λ_ _ _ _ _=>yg)<|λ_ _ _ _ _=>(XE.ow<|ig (jO xv T.bv) xv))<|zc (Bb (k:=0) (N:=["arrow","lengths","going"]) (om:=mO [0]) (cap:=[4,5]) (own:=1) nd (yp (n:=0) xv) (λ_ _ _ _ _ h=>(nM h)) (λ_ _ _ _ _=>(wq<|tJ hr (B6 xv<|jO xv T.bD)<|B6 xv xv))<|λ_ _ _ _ _=>(XE.ow xv))<|zh<|xF (LR (n:=0) T.bR<|za xv<|za (fJ<|iN xv ed) ze) (p9 nd)<|zh<|lZ (wa<|xn<|xc T.av (WB T) hr<|za xv<|za xv<|za xv<|za xv ze)<|jI<|xu (n:=0))<|zh<|jI<|xu (n:=0))
def p6:List D->Option D:=Ï ["net","rows","paper","count","first","lengths","settled"]
  (Ç (È 3<|yZ<|L eG (M 2)<|eC<|.int 0)
  (Ç (È 4<|yZ<|L eG (M 2)<|eC<|.int 1)
  (Ç (È 5<|L K0 (M 2)<|eC<|.int 2)
  (Ç (È 6<|L dL (M 4)<|λY=>((M 0) Y).bind λo=>ko 4 "most_behind" e9 o [])
  (Ç (Ö (è (tb<|L wQ (M 3)<|eC<|.int 1)<|è (tb<|L wQ (M 4)<|eC<|.int 0)<|è (tb<|L (iI Â) (eN fV<|C (M 5) Å)<|eN fV<|C (e1 (dH [4] "names")<|M 0) Å)<|tb<|L wQ (eN fV<|C (M 1) Å)<|L dL (M 6)<|M 3) (É<|eC<|.bl Ã) Ë)
  (Ç (Ö (è (Û<|tb<|cl oo<|C (M 1)<|C (M 4)<|C (L kx (M 6)<|eC<|.int 1)<|C (M 3)<|C (M 5) Å)<|Û<|tb<|cl jV<|C (M 0)<|C (M 5) Å) (É<|eC<|.bl Ã) Ë)
  (É<|cl kl<|C (M 0)<|C (M 1)<|C (M 6)<|C (L kx (L dL (M 6)<|M 3)<|eC<|.int 1)<|C (M 5) Å)))))))
theorem Yo (T:Txt K mg a w):dR P w K mg base fQ 3 a.a1 a.a2 ["net","rows","paper"] (iP K a.ct [0,0,2] 0 p6) :=
 lf (S:=[.ow 0,.ow 0,.al 2,.ow 0,.ow 0,.al 1,.ow 0]) T.ax.fn λ_ _ _ _ _ _ hr nd=>(zc (nr nd<|XO.sh (n:=0) (k:=0)<|DS<|FB (n:=2) qp EU (vn 2 2) ed<|λ_ _=>rfl)<|zc (nr nd<|XO.sh (n:=0) (k:=0)<|DS<|FB (n:=2) qp EU (vn 2 2) ed<|λ_ _=>rfl)<|zc (Z9 (i:=5) (j:=2) rfl rfl ed nd<|λ_ _=>rfl)<|zc (lR nd<|pw<|iN xv<|fJ<|xy (n:=0) (c0:=4) (nd:=[]) (pH:=[]) xv T.f.cl T.x.me (yf T) (hr.mono<|by decide) T.x.bd .nil<|λ_ _=>.nil)<|zc (lZ (XW.t<|v7 (AS xv ed)<|v7 (AS xv ed)<|v7 (Hh hr (o6 T.bO<|za xv ze)<|o6 T.bO<|za (jO xv T.bA) ze)<|vp<|AS (o6 T.bO<|za xv ze)<|fJ<|iN xv xv)<|jI<|xu (n:=0))<|zc (lZ (XW.t<|v7 (wa<|xn<|xc T.ar (Xy T) hr<|za xv<|za xv<|za (oX xv ed)<|za xv<|za xv ze)<|vp<|wa<|xn<|xc T.au (qf T) hr<|za xv<|za xv ze)<|jI<|xu (n:=0))<|zh<|xj<|jG T.aw (Wn T) hr<|za xv<|za xv<|za xv<|za (oX (fJ<|iN xv xv) ed)<|za xv ze)
def sC:SF:=(Ö (tb<|L (iI Ã) (λY=>((M 0) Y).bind λo=>((C (M 1) Å) Y).bind λO=>ko 4 "into" mI o (O++[]))<|λY=>(Å Y).bind λO=>U<|.lst O) Ø Ë)
def li:List D->Option D:=Ï ["net","going"]
  (Ò (λY=>((C (eN fV<|C (e1 (dH [4] "names")<|M 0) Å) Å) Y).bind lA) (gV 1) sC)
theorem VY (T:Txt K mg a w):dR P w K mg base fQ 2 a.a3 a.a4 ["net"] (iP K a.ct [0] 0 li) :=
 lf (S:=mO [0,0]) T.ay.fn λ_ _ _ _ _ _ hr nd=>(zh<|xF (yk (n:=0) T.bR<|za (o6 T.bO<|za (jO xv T.bA) ze) ze) (p9 nd)<|zh<|lZ (tJ hr (fJ<|u3 (n:=0) (c0:=4) (ns:=[0]) (nd:=[]) (pH:=[]) xv T.f.cl T.y.me (vk T) (hr.mono<|by decide) T.y.bd .nil (λ_ _=>.nil)<|za xv ze)<|fJ<|yb (k:=0) zt) xp)
def mD:SF:=(CT 4 (i2 λi j=>.int<|i-j)<|eC<|.int 1)
def fF:List D->Option D:=Ï ["rows","known","count","lengths","first"]
  (Ç (È 4<|M 1)
  (Ç (qX (Ü (tb<|L uL (M 4) db)<|tb<|L gf (cl lg<|C (M 0)<|C (L kx (M 4) dl)<|C (M 2) Å)<|M 3) mD)
  (É<|M 4)))
theorem qh (T:Txt K mg a w):dR P w K mg base fQ 2 a.a5 a.a6 ["rows","known","count","lengths"] (iP K a.ct [0,0,0,1] 0 fF) :=
 lf (S:=[.ow 0,.ow 0,.ow 0,.al 1,.ow 0]) T.az.fn λ_ _ _ _ _ _ hr nd=>(zc (nr nd xv)<|zc (IE (XW.t<|Jn (BQ xv ed)<|IR<|tJ hr (xc T.aq (LN T) hr<|za xv<|za (oX xv ed)<|za xv ze) xv)<|zh<|MZ Rp rfl nd rfl (Or.inl rfl) ed)<|zh<|jI xv)
def kC:SF:=(Ç (È 6<|L kx (M 4)<|M 5)
  (Ç (È 7<|cl lg<|C (M 3)<|C (M 6)<|C (M 5) Å)
  (Ö (tb<|cl p6<|C (M 0)<|C (M 3)<|C (λY=>((C (M 5)<|C (M 6)<|C (M 7) Å) Y).bind λO=>U<|.tup O) Å) (É<|λY=>(M 7 Y).bind λ_=>((C (yZ<|M 5)<|C (yZ<|cl fF<|C (M 3)<|C (M 6)<|C (M 5)<|C (M 7) Å)<|C (M 7) Å) Y).bind λO=>U<|.tup O) Ë)))
def jA:List D->Option D:=Ï ["net","most","was","rows","spare_rounds","count","last","lengths"]
  (Ç (ä<|cl li<|C (M 0) Å)
  (Ç (È 3<|λY=>((C (M 0)<|C (M 1)<|C (M 2) Å) Y).bind λO=>vI<|O++[.non])
  (Ç (È 4<|L kx (M 1)<|λY=>((M 0) Y).bind λo=>ko 4 "most_behind" e9 o [])
  (Ç (Ò (λY=>((C (eC<|.int 1)<|C (L dL (M 4)<|eC<|.int 1) Å) Y).bind t7) (gV 5) kC)
  (É<|yZ<|eC .non)))))
theorem Wo (T:Txt K mg a w):dR P w K mg base fQ 5 a.a7 a.a8 ["net","most","was"] (iP K a.ct [0,0,0] 2 jA) :=
 lf (S:=mO [0,0,0,0,0,0,0,1]) T.aA.fn λ_ _ _ _ _ _ hr nd=>(zc (QA<|xc T.ay (VY T) hr<|za xv ze)<|zc (lR nd<|jy (pH:=[.non]) (ns:=[0,0,0]) (nd:=[0]) (RI T) (hr.mono<|by decide) rfl T.an.mgx T.an.fn.kp T.ao.choose_spec.2.2 T.ao.choose_spec.2.1 (λ_ _=>(.cons (Al.of .non) .nil))<|za xv<|za xv<|za xv ze)<|zc (nr nd<|oX xv<|fJ<|xy (n:=0) (c0:=4) (nd:=[]) (pH:=[]) xv T.f.cl T.x.me (yf T) (hr.mono<|by decide) T.x.bd .nil<|λ_ _=>.nil)<|zc (xF (LR (n:=0) T.bR<|za ed<|za (fJ<|iN xv ed) ze) (p9 nd)<|zc (nr nd<|oX xv xv)<|zc (lR nd<|jG T.aq (LN T) hr<|za xv<|za xv<|za xv ze)<|zh<|lZ (xn<|xc T.ax (Yo T) hr<|za xv<|za xv<|za (zuy (n:=1)<|za xv<|za xv<|za xv ze) ze)<|Z2 (i:=7) rfl<|Qm (DS xv)<|Qm (DS<|xc T.az (qh T) hr<|za xv<|za xv<|za xv<|za xv ze)<|zuw (i:=7))<|zh<|xj<|DS rq)
abbrev en:=dH [5,6] "net"
def eR:List D->Option D:=Ï ["self","arrow","link"]
  (Ç (È 2<|L eG (e1 f8<|e1 en<|M 0)<|M 1)
  (É<|L kx (L kx (L dL (L eG (e1 (dH [5] "times")<|M 0)<|e1 on<|M 2)<|L jY (e1 (dH [5] "beat")<|M 0)<|e1 eV<|M 2)<|L eG (e1 (dH [5] "times")<|M 0)<|e1 e2<|M 2)<|e1 gy<|M 2))
theorem w8 (T:Txt K mg a w):dR P w K mg base fQ 1 a.a9 a.ba ["self","arrow"] (iP K a.ct [1,0] 0 eR) :=
 lf (S:=[.al 1,.ow 0,.ow 0]) T.aC.fn λ_ _ _ _ _ _ hr nd=>(zc (nr nd<|ig (jO (uS xv T.bB) T.bv) xv)<|zh<|jI<|oX (oX (fJ<|iN (ig (uS xv T.bG)<|jO xv T.bz)<|uW (uS xv T.bw)<|jO xv T.bx)<|ig (uS xv T.bG)<|jO xv T.bD)<|jO xv T.bF)
def jU:SF:=(Ö (tb<|L wQ (λY=>((M 0) Y).bind λo=>((C (M 4) Å) Y).bind λO=>ko 5 "slack" eR o (O++[]))<|eC<|.int 0) Ø Ë)
def iJ:Nat->List D->Option D:=CH ["self","net","times","beat","number"]
  (Ç (mP [5,6] "net" (M 1))
  (Ç (mP [5] "times" (eN Aj<|C (M 2) Å))
  (Ç (mP [5] "beat" (M 3))
  (Ò (λY=>((C (eN fV<|C (e1 (dH [4] "arrows")<|M 1) Å) Å) Y).bind lA) (gV 4) jU))))
theorem VZ (T:Txt K mg a w):dR P w K mg base fQ 2 a.bb a.bc ["self","net","times","beat"] (yQ K a.ct [5] [0,0,0] iJ) :=
 Fg (S:=mO [0,0,0,0]) (rk:=0) T.aD.fn λ_ _ _ _ _ _ _ hr nd=>(zc (vt T.bB xv)<|zc (vt T.bG<|fJ<|LQ v6 (LW (n:=0)<|by decide) rfl T.bP Ht<|za xv ze)<|zc (vt T.bw xv)<|zh<|xF (yk (n:=0) T.bR<|za (o6 T.bO<|za (jO xv T.bv) ze) ze) (p9 nd)<|zh<|lZ (AS (fJ<|u3 (n:=1) (c0:=5) (ns:=[0]) (nd:=[]) (pH:=[]) xv T.g.cl T.aC.me (w8 T) (hr.mono<|by decide) T.aC.bd .nil (λ_ _=>.nil)<|za xv ze) ed) xp)
def mE:SF:=(Ö (tb<|L (ñ Â) (M 4)<|M 2) (Ç (È 5<|L eG (e1 (dH [4] "arrows")<|e1 (dH [5,6] "net")<|M 0)<|M 4)
  (å 3<|λY=>((C (e1 (dH [0,1,2,3] "start")<|M 5)<|C (e1 (dH [0,1,2,3] "behind")<|M 5)<|C (λY=>((M 0) Y).bind λo=>((C (M 4) Å) Y).bind λO=>ko 5 "slack" eR o (O++[])) Å) Y).bind λO=>U<|.tup O)) Ë)
def gC:List D->Option D:=Ï ["table","going","left_out","links","number","arrow"]
  (Ç (È 3<|λY=>(Å Y).bind λO=>U<|.lst O)
  (Ç (Ò (ß<|λY=>((e1 (dH [5,6] "net")<|M 0) Y).bind λo=>((C (M 1) Å) Y).bind λO=>ko 4 "into" mI o (O++[])) (gV 4) mE)
  (É<|M 3)))
theorem WC (T:Txt K mg a w):dR P w K mg base fQ 2 a.bd a.be ["table","going","left_out"] (iP K a.ct [0,0,1] 0 gC) :=
 lf (S:=[.ow 0,.ow 0,.al 1,.ow 1,.ow 0,.ow 0]) T.aE.fn λ_ _ _ _ _ _ hr nd=>(zc (lR nd<|yb (k:=0) zt)<|zc (xF (xz<|fJ<|u3 (n:=0) (c0:=4) (ns:=[0]) (nd:=[]) (pH:=[]) (jO xv T.bB) T.f.cl T.y.me (vk T) (hr.mono<|by decide) T.y.bd .nil (λ_ _=>.nil)<|za xv ze) (p9 nd)<|zh<|FD (vo (k:=0) wv HA xv xv<|by with_unfolding_all rfl) (zc (nr nd<|ig (jO (jO xv T.bB) T.bv) xv)<|zh<|x6 3 rfl<|pw<|qx<|zj (XE.ow<|jO xv T.bD)<|zj (XE.ow<|jO xv T.bx)<|zj (u3 (n:=1) (c0:=5) (ns:=[0]) (nd:=[]) (pH:=[]) (XE.up xv (by decide:0<=1)) T.g.cl T.aC.me (w8 T) (hr.mono<|by decide) T.aC.bd .nil (λ_ _=>.nil)<|za xv ze) zt) wb)<|zh<|Hv (i:=3) rfl)
def iu:SF:=(È 3<|eN vJ<|C (M 3)<|C (L kx (L eG (L eG (M 0)<|L kx (e1 vX dl)<|M 5)<|M 4)<|M 6) Å)
def fG:List D->Option D:=Ï ["rows","links","put","most","start","behind","slack"]
  (Ç (È 3<|eN vJ<|C db<|C (M 2) Å)
  (Ç (Ò (ß<|M 1) (gT<|Í (gV 4)<|Í (gV 5)<|Í (gV 6) Ù) iu)
  (É<|M 3)))
theorem vm (T:Txt K mg a w):dR P w K mg base fQ 1 a.bf a.bg ["rows","links","put"] (iP K a.ct [2,0,0] 0 fG) :=
 lf (S:=[.al 2,.ow 0,.ow 0,.ow 0,.ow 0,.ow 0,.ow 0]) T.aF.fn λ_ _ _ _ _ _ hr nd=>(zc (nr nd<|xo (k:=0) (LL rfl) LX rfl T.bQ qv<|za ed<|za xv ze)<|zc (xF (xz xv) (Hz (n:=0) rfl<|xw (p9 nd)<|xw (p9 nd)<|xw (p9 nd) Hu)<|zh<|nr nd<|xo (k:=0) (LL rfl) LX rfl T.bQ qv<|za xv<|za (oX (B6 (FB (n:=2) qp EU (vn 0 2) (oX (Fv (k:=0) ed) xv)<|λ_ _=>rfl) xv) xv) ze)<|zh<|jI xv)
def Bp:SF:=(Ç (È 12<|λY=>((M 6) Y).bind λx=>((λY=>((C (M 11)<|C (M 10) Å) Y).bind λO=>U<|.tup O) Y).bind λy=>((eC<|.int 0) Y).bind λz=>(lN x y).bind λr=>U<|r.getD z)
  (uA 9 (e1 vX<|eC<|.int 1) (M 11)<|cl fG<|C (M 9)<|C (L eG (M 5)<|M 11)<|C (M 12) Å))
def pE:SF:=(Ç (å 9<|L wC (λY=>((C (eC<|.int 0) Å) Y).bind λO=>U<|.lst O)<|M 4)
  (Ò (ß<|M 7) (gV 11) Bp))
def BK:EF:=(fw (λY=>((C (M 8) Å) Y).bind lA) 1 [4] (gV 0) gW<|L wC (λY=>((C (eC<|.int 0) Å) Y).bind λO=>U<|.lst O)<|M 1)
def xT:EF:=(fw (λY=>((C (M 4) Å) Y).bind lA) 1 [0,3] (gV 0) gW<|cl gC<|C (M 1)<|C (M 0)<|C (î (tb<|L (qM Ã) (M 2)<|eC .non) (λY=>(Å Y).bind λO=>U<|.lst O)<|M 2) Å)
def oq:List D->Option D:=Ï ["table","rounds","puts","without","many","links","greatest","order","depth","rows","number","going","put"]
  (Ç (È 4<|eN fV<|C (e1 (dH [4] "names")<|e1 (dH [5,6] "net")<|M 0) Å)
  (Ç (È 5 xT)
  (Ç (È 6<|cl gY<|C (M 2) Å)
  (Ç (È 7<|λY=>((e1 (dH [5,6] "net")<|M 0) Y).bind λo=>ko 4 "order" pL o [])
  (Ç (È 8<|λY=>((e1 (dH [5,6] "net")<|M 0) Y).bind λo=>ko 4 "most_behind" e9 o [])
  (Ç (È 9 BK)
  (Ç (Ò (λY=>((C (M 1) Å) Y).bind lA) (gV 10) pE)
  (ù 9<|É<|λY=>((M 9) Y).bind λd=>((à<|M 8) Y).bind λl=>(ð Y).bind λh=>gP d l h))))))))
theorem MJ (T:Txt K mg a w):dR P w K mg base fQ 3 a.bh a.bi ["table","rounds","puts","without"] (iP K a.ct [0,0,1,1] 0 oq) :=
 lf (S:=[.ow 0,.ow 0,.al 1,.al 1,.ow 0,.ow 0,.ow 0,.ow 0,.ow 0,.ow 2,.ow 0,.ow 0,.ow 0]) T.aG.fn λ_ _ _ _ _ _ hr nd=>(zc (nr nd<|o6 T.bO<|za (jO (jO xv T.bB) T.bA) ze)<|zc (Bb (k:=0) (N:=["going","table","without"]) (om:=mO [0]) (cap:=[0,3]) (own:=1) nd (XI.cc<|yk (n:=0) T.bR<|za xv ze) (λ_ _ _ _ _ h=>(nM h)) (λ_ _ _ _ _=>yg)<|λ_ _ _ _ _=>(jG T.aE (WC T) hr<|za xv<|za xv<|za (Cb (zT xv rq) (XO.sh (n:=1)<|yb (k:=0) zt) xv) ze))<|zc (lR nd<|jG T.aj (vx T) hr<|za xv ze)<|zc (lR nd<|xy (n:=0) (c0:=4) (nd:=[]) (pH:=[]) (jO xv T.bB) T.f.cl T.z.me (OF T) (hr.mono<|by decide) T.z.bd .nil<|λ_ _=>.nil)<|zc (lR nd<|xy (n:=0) (c0:=4) (nd:=[]) (pH:=[]) (jO xv T.bB) T.f.cl T.x.me (yf T) (hr.mono<|by decide) T.x.bd .nil<|λ_ _=>.nil)<|zc (Bb (k:=2) (N:=["number","many"]) (om:=mO [0]) (cap:=[4]) (own:=1) nd (XI.cc<|yk (n:=0) T.bR<|za xv ze) (λ_ _ _ _ _ h=>(nM h)) (λ_ _ _ _ _=>yg)<|λ_ _ _ _ _=>(HE (yb (k:=0)<|zj (XE.ow ed) zt) xv))<|zc (xF (yk (n:=0) T.bR<|za xv ze) (p9 nd)<|zc (x6 9 rfl<|HE (yb (k:=0)<|zj (XE.ow ed) zt) xv)<|zh<|xF (xz xv) (p9 nd)<|zc (nr nd<|zua (n:=0) (C2 hr) (vn 6 0) (fJ<|qx<|zj (XE.ow xv)<|zj (XE.ow xv) zt) ed ⟨rfl,rfl,rfl,rfl⟩)<|zh<|Ql 9 rfl (Fv (k:=0) ed) xv (λ_ _=>rfl)<|xc T.aF (vm T) hr<|za xv<|za (ig xv xv)<|za xv ze)<|Jq (i:=9) rfl<|zh<|xj<|pw<|wd (n:=0) (by decide) xv (wj xv) Cc)
def t5:EF:=(fw (ß<|M 3) 1 [2,7] im (tb<|L gf (e1 e2<|L eG (e1 f8<|M 1)<|M 0)<|M 2)<|M 0)
def tS:SF:=(Ç (È 9<|e1 (dH [0,1,2,3] "goal")<|L eG (e1 (dH [4] "arrows")<|M 2)<|M 8)
  (Ç (Ö (tb<|L (iI Ã) (M 9)<|M 1) (ù 5<|É<|L dL (cl tX<|C (e1 (dH [4] "arrows")<|M 2)<|C (M 5)<|C (M 1)<|C (M 7) Å)<|λY=>((C (M 8) Å) Y).bind λO=>U<|.lst O) Ë)
  (Ö (tb<|L (ñ Â) (M 9)<|M 4) (Ç (å 4<|M 9)
  (Ap 5 (M 9)<|M 8)) Ë)))
def tT:SF:=(Ç (È 7<|L eG (M 4)<|M 6)
  (Ç (Ò (ß t5) (gV 8) tS)
  (CT 6 (i2 λi j=>.int<|i+j)<|eC<|.int 1)))
def pS:EF:=(fw (λY=>((C (eN fV<|C (e1 (dH [4] "arrows")<|M 2) Å) Å) Y).bind lA) 1 [0] (gV 0) (tb<|L (iI Ã) (λY=>((M 1) Y).bind λo=>((C (M 0) Å) Y).bind λO=>ko 5 "slack" eR o (O++[]))<|eC<|.int 0)<|M 0)
def jX:List D->Option D:=Ï ["table","going","net","tight","reached","chosen","done","here","number","goal"]
  (Ç (È 2<|e1 (dH [5,6] "net")<|M 0)
  (Ç (È 3 pS)
  (Ç (È 4<|λY=>((C (M 1) Å) Y).bind λO=>U<|.lst O)
  (Ç (È 5<|eC<|.dK [] [])
  (Ç (È 6<|eC<|.int 0)
  (Ç (qX (tb<|L wQ (M 6)<|eN fV<|C (M 4) Å) tT)
  (É<|eC .non)))))))
theorem WD (T:Txt K mg a w):dR P w K mg base fQ 2 a.bj a.bk ["table","going"] (iP K a.ct [0,0] 0 jX) :=
 lf (S:=mO [0,0,0,0,1,1,0,0,0,0]) T.aI.fn λ_ _ _ _ _ _ hr nd=>(zc (nr nd<|jO xv T.bB)<|zc (Bb (k:=0) (N:=["number","table"]) (om:=mO [0]) (cap:=[0]) (own:=1) nd (XI.cc<|yk (n:=0) T.bR<|za (o6 T.bO<|za (jO xv T.bv) ze) ze) (λ_ _ _ _ _ h=>(nM h)) (λ_ _ _ _ _=>(wq<|tJ hr (fJ<|u3 (n:=1) (c0:=5) (ns:=[0]) (nd:=[]) (pH:=[]) (XE.up xv (by decide:0<=1)) T.g.cl T.aC.me (w8 T) (hr.mono<|by decide) T.aC.bd .nil (λ_ _=>.nil)<|za xv ze) ed))<|λ_ _ _ _ _=>(XE.ow xv))<|zc (lR nd<|yb (k:=0)<|zj (XE.ow xv) zt)<|zc (lR nd Qd)<|zc (nr nd ed)<|zc (IE (AS xv<|o6 T.bO<|za xv ze)<|zc (nr nd<|B6 xv xv)<|zc (xF (xz<|fJ<|uD (N:=["step","net","here"]) (om:=mO [0]) (cap:=[2,7]) (own:=1) (yp (n:=0) xv) (λ_ _ _ _ _ h=>(nM h)) (λ_ _ _ _ _=>(wq<|tJ hr (jO (ig (jO xv T.bv) xv) T.bD) xv))<|λ_ _ _ _ _=>(XE.ow xv)) (p9 nd)<|zc (nr nd<|jO (ig (jO xv T.bv) xv) T.bz)<|zc (FD (tJ hr xv xv) (Jq (i:=5) rfl<|zh<|xj<|pw<|iN (xc T.u (Xx T) hr<|za (jO xv T.bv)<|za xv<|za xv<|za xv ze)<|fJ<|yb (k:=0)<|zj (XE.ow xv) zt) wb)<|zh<|FD (vo (k:=0) wv HA xv xv<|by with_unfolding_all rfl) (zc (x6 4 rfl<|XE.ow xv)<|zh<|MF 5 rfl (C2 hr) xv xv) wb)<|zh<|MZ MT rfl nd rfl (Or.inl rfl) ed)<|zh<|jI rq)
def kZ:SF:=(Ö (tb<|L uL (L eG (M 4)<|M 5)<|eC<|.int 0) (É<|λY=>((C (eC<|.str "ever")<|C (M 5)<|C (M 3) Å) Y).bind λO=>U<|.tup O) Ë)
def jL:SF:=(Ò (ß<|M 2) (gV 5) kZ)
def pR:EF:=(fw (λY=>((C (eN fV<|C (e1 (dH [4] "names")<|e1 (dH [5,6] "net")<|M 0) Å) Å) Y).bind lA) 1 [0] (gV 0) (tb<|L (qM Â) (cl jX<|C (M 1)<|C (M 0) Å)<|eC .non)<|M 0)
def mq:List D->Option D:=Ï ["table","rows","keepers","number","row","going"]
  (Ç (È 2 pR)
  (Ç (Ò (λY=>((C (M 1) Å) Y).bind λO=>match O with|[.lst xs]=>U (iC 0 xs)|_=>G) (gT<|Í (gV 3)<|Í (gV 4) Ù) jL)
  (É<|eC .non)))
theorem WE (T:Txt K mg a w):dR P w K mg base fQ 3 a.bl a.bm ["table","rows"] (iP K a.ct [0,0] 0 mq) :=
 lf (S:=mO [0,0,0,0,0,0]) T.aJ.fn λ_ _ _ _ _ _ hr nd=>(zc (Bb (k:=0) (N:=["going","table"]) (om:=mO [0]) (cap:=[0]) (own:=1) nd (XI.cc<|yk (n:=0) T.bR<|za (o6 T.bO<|za (jO (jO xv T.bB) T.bA) ze) ze) (λ_ _ _ _ _ h=>(nM h)) (λ_ _ _ _ _=>(wq<|Oq (xc T.aI (WD T) hr<|za xv<|za xv ze) rq))<|λ_ _ _ _ _=>(XE.ow xv))<|zc (xF (MC T.bL<|za xv ze) (Hz (n:=1) rfl<|xw (p9 nd)<|xw (p9 nd) Hu)<|zh<|xF (xz xv) (p9 nd)<|zh<|lZ (BQ (ig xv xv) ed)<|xj<|pw<|qx<|zj (XE.ow<|zl (n:=0))<|zj (XE.ow xv)<|zj (XE.ow xv) zt)<|zh<|jI rq)
def xR:EF:=(fw (λY=>((C (M 3) Å) Y).bind λO=>match O with|[.lst xs]=>U (iC 0 xs)|_=>G) 2 [] (gT<|Í (gV 0)<|Í (gV 1) Ù) (tb<|L uL (eN tY<|C (M 1) Å)<|eC<|.int 0)<|M 0)
def xS:EF:=(fw (ß<|M 1) 3 [2] (gT<|Í im<|Í (gV 1)<|Í (gV 2) Ù) (Ü (tb<|L uL (M 2) db)<|tb<|L E9 (M 1)<|M 3)<|M 1)
def vW:List D->Option D:=Ï ["table","puts","most","rows","kept","beyond","late_rounds","first_free"]
  (Ç (È 3<|λY=>((C (M 0)<|C (M 2)<|C (M 1) Å) Y).bind λO=>oq<|O++[.non])
  (Ç (È 4<|cl mq<|C (M 0)<|C (M 3) Å)
  (Ç (Ö (tb<|L (qM Â) (M 4)<|eC .non) (É<|M 4) Ë)
  (Ç (È 5 xS)
  (Ç (È 6<|L dL xR<|M 5)
  (Ç (È 7<|L dL (L xP (M 6)<|e1 vX<|eC<|.int 1)<|eC<|.int 1)
  (É<|î (tb<|L vV (L dL (M 7)<|λY=>((e1 (dH [5,6] "net")<|M 0) Y).bind λo=>ko 4 "most_behind" e9 o [])<|M 2) (λY=>((C (eC<|.str "died")<|C (M 7) Å) Y).bind λO=>U<|.tup O)<|eC .non)))))))
theorem ϶ (T:Txt K mg a w):dR P w K mg base fQ 4 a.bn a.bo ["table","puts","most"] (iP K a.ct [0,1,0] 0 vW) :=
 lf (S:=[.ow 0,.al 1,.ow 0,.ow 0,.ow 0,.ow 0,.ow 0,.ow 0]) T.aK.fn λ_ _ _ _ _ _ hr nd=>(zc (lR nd<|jy (pH:=[.non]) (ns:=[0,0,1]) (nd:=[1]) (MJ T) (hr.mono<|by decide) rfl T.aG.mgx T.aG.fn.kp T.aH.choose_spec.2.2 T.aH.choose_spec.2.1 (λ_ _=>(.cons (Al.of .non) .nil))<|za xv<|za xv<|za xv ze)<|zc (lR nd<|jG T.aJ (WE T) hr<|za xv<|za xv ze)<|zc (lZ (Oq xv rq)<|jI xv)<|zc (Bb (k:=0) (N:=["going","number","amount","most"]) (om:=mO [0,0,0]) (cap:=[2]) (own:=3) nd (yp (n:=1) xv) (λ_ _ _ _ _ h=>(u4 (n:=0) rfl<|yo (nM h)<|yo (nM h)<|yo (nM h) vh)) (λ_ _ _ _ _=>(wq<|XW.t<|Jn (BQ xv ed)<|IR<|On xv xv))<|λ_ _ _ _ _=>(XE.ow xv))<|zc (lR nd<|pw<|iN (fJ<|uD (N:=["number","row"]) (om:=mO [0,0]) (cap:=[]) (own:=2) (LV (n:=0) T.bL<|za xv ze) (λ_ _ _ _ _ h=>(u4 (n:=1) rfl<|yo (nM h)<|yo (nM h) vh)) (λ_ _ _ _ _=>(wq<|BQ (xo (k:=0) (jh rfl) IY rfl T.bQ qv<|za xv ze) ed))<|λ_ _ _ _ _=>(XE.ow xv)) xv)<|zc (lR nd<|pw<|iN (zup (k:=0) rfl rfl T.bQ xv<|Fv (k:=0) ed) ed)<|zh<|jI<|Cb (Oo (fJ<|iN xv<|fJ<|xy (n:=0) (c0:=4) (nd:=[]) (pH:=[]) (jO xv T.bB) T.f.cl T.x.me (yf T) (hr.mono<|by decide) T.x.bd .nil<|λ_ _=>.nil) xv) (fJ<|qx<|zj (XE.ow<|zl (n:=0))<|zj (XE.ow xv) zt) rq)
def oG:List D->Option D:=Ï ["self"]
  (É<|eC<|.bl Ã)
theorem VR (T:Txt K mg a w):dR P w K mg base fQ 1 a.bp a.bq ["self"] (iP K a.ct [0] 0 oG) :=
 lf (S:=mO [0]) T.aL.fn λ_ _ _ _ _ _ hr nd=>(zh<|jI<|xu (n:=0))
def oH:List D->Option D:=Ï ["self"]
  (É<|eC<|.bl Â)
theorem VS (T:Txt K mg a w):dR P w K mg base fQ 1 a.br a.bs ["self"] (iP K a.ct [0] 0 oH) :=
 lf (S:=mO [0]) T.aM.fn λ_ _ _ _ _ _ hr nd=>(zh<|jI<|xu (n:=0))
def oF:List D->Option D:=Ï ["self"]
  (É<|eC<|.bl Ã)
theorem VT (T:Txt K mg a w):dR P w K mg base fQ 1 a.bt a.bu ["self"] (iP K a.ct [0] 0 oF) :=
 lf (S:=mO [0]) T.aN.fn λ_ _ _ _ _ _ hr nd=>(zh<|jI<|xu (n:=0))
def xU:EF:=(fw (ß<|M 1) 1 [2] (gV 0) gW<|L dL (M 0)<|λY=>((C (M 1) Å) Y).bind λO=>U<|.lst O)
def xH:SF:=(È 1<|L FV (M 1) xU)
def nU:List D->Option D:=Ï ["waits","sets","wait"]
  (Ç (È 1<|λY=>((C (λY=>(Å Y).bind λO=>U<|.lst O) Å) Y).bind λO=>U<|.lst O)
  (Ç (Ò (ß<|M 0) (gV 2) xH)
  (É<|e1 rR<|M 1)))
theorem Yp (T:Txt K mg a w):dR P w K mg base fQ 1 a.bv a.bw ["waits"] (iP K a.ct [0] 2 nU) :=
 lf (S:=mO [0,2,0]) T.aO.fn λ_ _ _ _ _ _ hr nd=>(zc (lR nd<|yb (k:=1)<|zj (yb (k:=0) zt) zt)<|zc (xF (xz xv) (p9 nd)<|zh<|zql (k:=1) rfl nd<|uD (N:=["chosen","wait"]) (om:=[.al 1]) (cap:=[2]) (own:=1) (yp (n:=2) xv) (λ_ _ _ _ _ h=>(Y2 (by decide) rfl h rfl<|by walk_at "v3")) (λ_ _ _ _ _=>yg)<|λ_ _ _ _ _=>(R6 MD (QN (n:=1) (m:=0) (by decide)<|by decide) xv<|fJ<|yb (k:=0)<|zj (XE.ow xv) zt))<|zh<|Xp (k:=0) rfl rfl T.bT rfl T.bO)
def jB:List D->Option D:=Ï ["table","puts","going","beat","without"]
  (É<|L uL (L eG (L eG (cl oq<|C (M 0)<|C (L dL (M 3) dl)<|C (M 1)<|C (M 4) Å)<|M 3)<|M 2) db)
theorem O5 (T:Txt K mg a w):dR P w K mg base fQ 4 a.bx a.bz ["table","puts","going","beat","without"] (iP K a.ct [0,1,0,0,1] 0 jB) :=
 lf (S:=[.ow 0,.al 1,.ow 0,.ow 0,.al 1]) T.aP.fn λ_ _ _ _ _ _ hr nd=>(zh<|jI<|Vd (ig (ig (xc T.aG (MJ T) hr<|za xv<|za (fJ<|iN xv ed)<|za xv<|za xv ze) xv) xv) ed)
def tm:EF:=(fw (λY=>((C (e1 (dH [4] "arrows")<|e1 (dH [5,6] "net")<|M 0) Å) Y).bind λO=>match O with|[.lst xs]=>U (iC 0 xs)|_=>G) 2 [] (gT<|Í (gV 0)<|Í (gV 1) Ù) (tb<|λY=>((λY=>((M 1) Y).bind λo=>ko 1 "may_drop" oG o []) Y).or<|(λY=>((λY=>((M 1) Y).bind λo=>ko 2 "may_drop" oH o []) Y).or<|(λY=>((M 1) Y).bind λo=>ko 3 "may_drop" oF o []) Y) Y)<|M 0)
def p5:List D->Option D:=Ï ["table","puts","going","beat","waits","chosen"]
  (Ç (È 4 tm)
  (Ç (Ö (tb<|L uL (eN fV<|C (M 4) Å)<|eC<|.int 8) Ø Ë)
  (Ç (Ö (tb<|cl jB<|C (M 0)<|C (M 1)<|C (M 2)<|C (M 3)<|C (M 4) Å) (É<|yZ fg) Ë)
  (Ç (vM 5 (cl nU<|C (M 4) Å)<|Û<|tb<|cl jB<|C (M 0)<|C (M 1)<|C (M 2)<|C (M 3)<|C (M 5) Å)
  (É<|yZ fg)))))
theorem Yq (T:Txt K mg a w):dR P w K mg base fQ 5 a.bA a.bB ["table","puts","going","beat"] (iP K a.ct [0,1,0,0] 1 p5) :=
 lf (S:=[.ow 0,.al 1,.ow 0,.ow 0,.ow 0,.al 1]) T.aQ.fn λ_ _ _ _ _ _ hr nd=>(zc (Bb (k:=0) (N:=["number","arrow"]) (om:=mO [0,0]) (cap:=[]) (own:=2) nd (LV (n:=0) T.bL<|za (jO (jO xv T.bB) T.bv) ze) (λ_ _ _ _ _ h=>(u4 (n:=1) rfl<|yo (nM h)<|yo (nM h) vh)) (λ_ _ _ _ _=>(wq<|xn<|fJ<|R7 (xy (n:=0) (c0:=1) (nd:=[]) (pH:=[]) xv T.c.cl T.aL.me (VR T) (hr.mono<|by decide) T.aL.bd .nil<|λ_ _=>.nil)<|R7 (xy (n:=0) (c0:=2) (nd:=[]) (pH:=[]) xv T.d.cl T.aM.me (VS T) (hr.mono<|by decide) T.aM.bd .nil<|λ_ _=>.nil)<|xy (n:=0) (c0:=3) (nd:=[]) (pH:=[]) xv T.e.cl T.aN.me (VT T) (hr.mono<|by decide) T.aN.bd .nil<|λ_ _=>.nil))<|λ_ _ _ _ _=>(XE.ow xv))<|zc (lZ (BQ (o6 T.bO<|za xv ze)<|DO T.b3) xp)<|zc (lZ (xn<|xc T.aP (O5 T) hr<|za xv<|za xv<|za xv<|za xv<|za (XE.up xv (by decide:0<=1)) ze)<|xj<|DS rq)<|zc (zuz (k:=0) rfl (by decide) nd (jG T.aO (Yp T) hr<|za xv ze) (wa<|xn<|xc T.aP (O5 T) hr<|za xv<|za xv<|za xv<|za xv<|za xv ze) lC.never rfl)<|zh<|xj<|DS rq)
def m7:List D->Option D:=Ï ["time"]
  (É<|î (tb<|L r6 (M 0) fg) (eC<|.str "-")<|eN iM<|C (M 0) Å)
theorem Xc (T:Txt K mg a w):dR P w K mg base fQ 1 a.bC a.bD ["time"] (iP K a.ct [0] 0 m7) :=
 lf (S:=mO [0]) T.aR.fn λ_ _ _ _ _ _ hr nd=>(zh<|jI<|Cb (zT xv rq) (zl (n:=0))<|zm (k:=0) zq yt rfl T.bU xi<|za xv ze)
def t6:EF:=(fw (ß<|M 0) 1 [] im gW<|eN fV<|C (M 0) Å)
def pO:List D->Option D:=Ï ["words"]
  (É<|eN tY<|C t6 Å)
theorem PD (T:Txt K mg a w):dR P w K mg base fQ 1 a.bE a.bF ["words"] (iP K a.ct [0] 0 pO) :=
 lf (S:=mO [0]) T.aS.fn λ_ _ _ _ _ _ hr nd=>(zh<|jI<|xo (k:=0) (jh rfl) IY rfl T.bQ qv<|za (fJ<|uD (N:=["word"]) (om:=mO [0]) (cap:=[]) (own:=1) (yp (n:=0) xv) (λ_ _ _ _ _ h=>(nM h)) (λ_ _ _ _ _=>yg)<|λ_ _ _ _ _=>(XE.ow<|o6 T.bO<|za xv ze)) ze)
def nc:EF:=(fw (ß<|M 2) 1 [3] im gW<|L (zL Txt.zfill) (M 0)<|M 1)
def nh:EF:=(fw (λY=>((C (M 1) Å) Y).bind lA) 1 [0] (gV 0) gW<|eN iM<|C (L dL (M 1)<|M 0) Å)
def kE:List D->Option D:=Ï ["first","many","words","width"]
  (Ç (È 2 nh)
  (Ç (È 3<|cl pO<|C (L dL (λY=>((C (eC<|.str "round") Å) Y).bind λO=>U<|.lst O)<|M 2) Å)
  (É<|L dL (λY=>((C (L (zL Txt.ljust) (eC<|.str "round")<|M 3) Å) Y).bind λO=>U<|.lst O) nc)))
theorem VU (T:Txt K mg a w):dR P w K mg base fQ 2 a.bG a.bH ["first","many"] (iP K a.ct [0,0] 0 kE) :=
 lf (S:=mO [0,0,0,0]) T.aT.fn λ_ _ _ _ _ _ hr nd=>(zc (Bb (k:=0) (N:=["count","first"]) (om:=mO [0]) (cap:=[0]) (own:=1) nd (XI.cc<|yk (n:=0) T.bR<|za xv ze) (λ_ _ _ _ _ h=>(nM h)) (λ_ _ _ _ _=>yg)<|λ_ _ _ _ _=>(XE.ow<|zm (k:=0) zq yt rfl T.bU xi<|za (fJ<|iN xv xv) ze))<|zc (lR nd<|jG T.aS (PD T) hr<|za (fJ<|iN (fJ<|yb (k:=0)<|zj (XE.ow<|zl (n:=0)) zt) xv) ze)<|zh<|xj<|pw<|iN (fJ<|yb (k:=0)<|zj (XE.ow<|Z4 (k:=0) (zl (n:=0)) xv) zt)<|fJ<|uD (N:=["word","width"]) (om:=mO [0]) (cap:=[3]) (own:=1) (yp (n:=0) xv) (λ_ _ _ _ _ h=>(nM h)) (λ_ _ _ _ _=>yg)<|λ_ _ _ _ _=>(XE.ow<|Z8 (k:=0) xv xv))
def oM:EF:=(fw (ß<|M 2) 1 [3] im gW<|L (zL Txt.rjust) (M 0)<|M 1)
def oN:EF:=(fw (ß<|M 1) 1 [] im gW<|cl m7<|C (M 0) Å)
def lL:List D->Option D:=Ï ["name","times","words","width"]
  (Ç (È 2<|L dL (λY=>((C (M 0) Å) Y).bind λO=>U<|.lst O) oN)
  (Ç (È 3<|cl pO<|C (M 2) Å)
  (É oM)))
theorem Wp (T:Txt K mg a w):dR P w K mg base fQ 2 a.bI a.bJ ["name","times"] (iP K a.ct [0,0] 0 lL) :=
 lf (S:=mO [0,0,0,0]) T.aU.fn λ_ _ _ _ _ _ hr nd=>(zc (lR nd<|pw<|iN (fJ<|yb (k:=0)<|zj (XE.ow xv) zt)<|fJ<|uD (N:=["time"]) (om:=mO [0]) (cap:=[]) (own:=1) (yp (n:=0) xv) (λ_ _ _ _ _ h=>(nM h)) (λ_ _ _ _ _=>yg)<|λ_ _ _ _ _=>(jG T.aR (Xc T) hr<|za xv ze))<|zc (lR nd<|jG T.aS (PD T) hr<|za xv ze)<|zh<|xj<|pw<|uD (N:=["word","width"]) (om:=mO [0]) (cap:=[3]) (own:=1) (yp (n:=0) xv) (λ_ _ _ _ _ h=>(nM h)) (λ_ _ _ _ _=>yg)<|λ_ _ _ _ _=>(XE.ow<|Z6 (k:=0) xv xv))
def oK:EF:=(fw (ß<|M 0) 1 [1] im gW<|L eG (M 0)<|M 1)
def lK:List D->Option D:=Ï ["columns","place"]
  (É<|L oB (eC<|.str " ") oK)
theorem Wq (T:Txt K mg a w):dR P w K mg base fQ 1 a.bK a.bL ["columns","place"] (iP K a.ct [0,0] 0 lK) :=
 lf (S:=mO [0,0]) T.aV.fn λ_ _ _ _ _ _ hr nd=>(zh<|jI<|j5 (k:=0) (zl (n:=0))<|fJ<|uD (N:=["column","place"]) (om:=mO [0]) (cap:=[1]) (own:=1) (yp (n:=0) xv) (λ_ _ _ _ _ h=>(nM h)) (λ_ _ _ _ _=>yg)<|λ_ _ _ _ _=>(XE.ow<|ig xv xv))
def sZ:EF:=(fw (λY=>((C (L dL (eN fV<|C (M 1) Å)<|eC<|.int 1) Å) Y).bind lA) 1 [3] (gV 0) gW<|cl lK<|C (M 1)<|C (M 0) Å)
def tf:EF:=(fw (ß<|M 1) 1 [4] im gW<|L eG (M 0)<|M 1)
def pD:SF:=(å 3<|cl lL<|C (M 5)<|C tf Å)
def nR:List D->Option D:=Ï ["names","rows","first","columns","going","name"]
  (Ç (È 3<|λY=>((C (cl kE<|C (M 2)<|C (eN fV<|C (M 1) Å) Å) Å) Y).bind λO=>U<|.lst O)
  (Ç (Ò (λY=>((C (M 0) Å) Y).bind λO=>match O with|[.lst xs]=>U (iC 0 xs)|_=>G) (gT<|Í (gV 4)<|Í (gV 5) Ù) pD)
  (ù 3<|É<|L oB (eC<|.str "\n") sZ)))
theorem O6 (T:Txt K mg a w):dR P w K mg base fQ 3 a.bM a.bN ["names","rows","first"] (iP K a.ct [0,0,0] 0 nR) :=
 lf (S:=mO [0,0,0,1,0,0]) T.aW.fn λ_ _ _ _ _ _ hr nd=>(zc (lR nd<|yb (k:=0)<|zj (jG T.aT (VU T) hr<|za xv<|za (o6 T.bO<|za xv ze) ze) zt)<|zc (xF (MC T.bL<|za xv ze) (Hz (n:=1) rfl<|xw (p9 nd)<|xw (p9 nd) Hu)<|zh<|x6 3 rfl<|jG T.aU (Wp T) hr<|za xv<|za (fJ<|uD (N:=["row","going"]) (om:=mO [0]) (cap:=[4]) (own:=1) (yp (n:=0) xv) (λ_ _ _ _ _ h=>(nM h)) (λ_ _ _ _ _=>yg)<|λ_ _ _ _ _=>(XE.ow<|ig xv xv)) ze)<|Jq (i:=3) rfl<|zh<|jI<|j5 (k:=0) (zl (n:=0))<|fJ<|uD (N:=["place","columns"]) (om:=mO [0]) (cap:=[3]) (own:=1) (XI.cc<|yk (n:=0) T.bR<|za (fJ<|iN (o6 T.bO<|za xv ze) ed) ze) (λ_ _ _ _ _ h=>(nM h)) (λ_ _ _ _ _=>yg)<|λ_ _ _ _ _=>(jG T.aV (Wq T) hr<|za xv<|za xv ze))
def iV:List D->Option D:=Ï ["word","slot"]
  (Ç (Ö (tb<|L r6 (M 1) fg) io Ë)
  (É<|eB<|Ü (tb<|cl jQ<|C (M 0) Å)<|Ü (tb<|L vV (L eG (M 1) db)<|eN jP<|C (M 0) Å)<|tb<|L vV (eN jP<|C (M 0) Å)<|L eG (M 1) dl))
theorem WF (T:Txt K mg a w):dR P w K mg base fQ 3 a.bO a.bP ["word","slot"] (iP K a.ct [0,0] 0 iV) :=
 lf (S:=mO [0,0]) T.aX.fn λ_ _ _ _ _ _ hr nd=>(zc (lZ (zT xv rq)<|jI<|xu (n:=0))<|zh<|jI<|jc (xc T.aa (OG T) hr<|za xv ze)<|jc (B9 (ig xv ed)<|zm (k:=0) yj yy rfl T.bM x9<|za xv ze)<|v8 (k:=0)<|B9 (zm (k:=0) yj yy rfl T.bM x9<|za xv ze)<|ig xv ed)
def mw:EF:=(fw (λY=>((C (λY=>((M 0) Y).bind λd=>((à<|eC<|.int 1) Y).bind λl=>(ð Y).bind λh=>gP d l h)<|C (M 1) Å) Y).bind C4) 2 [] (gT<|Í (gV 0)<|Í (gV 1) Ù) gW<|cl iV<|C (M 0)<|C (M 1) Å)
def mJ:List D->Option D:=Ï ["words","form"]
  (Ç (È 1<|e1 (En ym)<|L eG (M 0) db)
  (Ç (Ö (tb<|L (iI Â) (eN fV<|C (M 0) Å)<|L dL (eN fV<|C (M 1) Å) dl) ds Ë)
  (É<|eN lV<|C mw Å)))
theorem Xz (T:Txt K mg a w):dR P w K mg base fQ 4 a.bQ a.bR ["words"] (iP K a.ct [0] 0 mJ) :=
 lf (S:=mO [0,0]) T.aY.fn λ_ _ _ _ _ _ hr nd=>(zc (nr nd<|R4 (k:=0) T.br<|ig xv ed)<|zc (lZ (Hh hr (o6 T.bO<|za xv ze)<|fJ<|iN (o6 T.bO<|za xv ze) ed)<|jI<|xu (n:=0))<|zh<|jI<|xo (k:=0) (ve rfl) j4 rfl T.bJ Fu<|za (fJ<|uD (N:=["word","slot"]) (om:=mO [0,0]) (cap:=[]) (own:=2) (RF T.bV<|za (fJ<|wd (n:=0) (by decide) xv (wj ed) Cc)<|za xv ze) (λ_ _ _ _ _ h=>(u4 (n:=1) rfl<|yo (nM h)<|yo (nM h) vh)) (λ_ _ _ _ _=>yg)<|λ_ _ _ _ _=>(jG T.aX (WF T) hr<|za xv<|za xv ze)) ze)
def jE:EF:=(fw (ß<|λY=>((M 0) Y).bind λd=>((à<|eC<|.int 1) Y).bind λl=>(ð Y).bind λh=>gP d l h) 1 [] (gV 0) gW<|eN jP<|C (M 0) Å)
def kD:List D->Option D:=Ï ["words","many"]
  (Ç (Ö (è (tb<|L (iI Â) (eN fV<|C (M 0) Å)<|L dL (M 1)<|eC<|.int 2)<|Û<|tb<|cl km<|C (λY=>((M 0) Y).bind λd=>((à<|eC<|.int 1) Y).bind λl=>(ð Y).bind λh=>gP d l h) Å) (É<|eC<|.bl Ã) Ë)
  (É<|L vV (eN tY<|C jE Å)<|eC<|.int 1000000000000))
theorem VV (T:Txt K mg a w):dR P w K mg base fQ 4 a.bS a.bT ["words","many"] (iP K a.ct [0,0] 0 kD) :=
 lf (S:=mO [0,0]) T.aZ.fn λ_ _ _ _ _ _ hr nd=>(zc (lZ (XW.t<|v7 (Hh hr (o6 T.bO<|za xv ze)<|fJ<|iN xv ed)<|vp<|wa<|xn<|xc T.ab (u0 T) hr<|za (fJ<|wd (n:=0) (by decide) xv (wj ed) Cc) ze)<|jI<|xu (n:=0))<|zh<|jI<|B9 (xo (k:=0) (jh rfl) IY rfl T.bQ qv<|za (fJ<|uD (N:=["word"]) (om:=mO [0]) (cap:=[]) (own:=1) (yp (n:=0)<|fJ<|wd (n:=0) (by decide) xv (wj ed) Cc) (λ_ _ _ _ _ h=>(nM h)) (λ_ _ _ _ _=>yg)<|λ_ _ _ _ _=>(XE.ow<|zm (k:=0) yj yy rfl T.bM x9<|za xv ze)) ze)<|DO T.b0)
def jR:List D->Option D:=Ï ["desk","words"]
  (Ç (Ö (tb<|L gf (L eG (M 1) db)<|eC<|.str "goings") io Ë)
  (Ç (Ö (è (tb<|L r6 (e1 en<|M 0) fg)<|Ü (tb<|L (ñ Ã) (L eG (M 1) db)<|eC yh)<|tb<|L r6 (e1 (dH [6] "table")<|M 0) fg) ds Ë)
  (Ç (Ö (tb<|L gf (L eG (M 1) db)<|eC<|.str "plan") (É<|cl kD<|C (M 1)<|C (eN fV<|C (e1 ge<|e1 en<|M 0) Å) Å) Ë)
  (Ç (Ö (tb<|e1 (rL Â ym)<|L eG (M 1) db) (É<|cl gH<|C (M 1) Å) Ë)
  (Ç (Ö (Û<|tb<|cl mJ<|C (M 1) Å) ds Ë)
  (É<|eB<|è (tb<|L (ñ Â) (L eG (M 1) db)<|eC yn)<|tb yY))))))
theorem Zf (T:Txt K mg a w):dR P w K mg base fQ 5 a.bU a.bV ["desk","words"] (iP K a.ct [1,0] 0 jR) :=
 lf (S:=[.al 1,.ow 0]) T.a0.fn λ_ _ _ _ _ _ hr nd=>(zc (lZ (tJ hr (ig xv ed)<|zl (n:=0))<|jI<|xu (n:=0))<|zc (lZ (XW.t<|v7 (zT (uS xv T.bB) rq)<|vp<|XW.t<|Jn (vo (k:=0) YJ HA (ig xv ed) (R9 (n:=0) T.bq)<|by with_unfolding_all rfl)<|IR<|zT (uS xv T.bE) rq)<|jI<|xu (n:=0))<|zc (lZ (tJ hr (ig xv ed)<|zl (n:=0))<|xj<|jG T.aZ (VV T) hr<|za xv<|za (o6 T.bO<|za (jO (uS xv T.bB) T.bA) ze) ze)<|zc (lZ (XY T.br<|ig xv ed)<|xj<|jG T.ac (j8 T) hr<|za xv ze)<|zc (lZ (wa<|xn<|xc T.aY (Xz T) hr<|za xv ze)<|jI<|xu (n:=0))<|zh<|jI<|Na (Hy (k:=0) wv HA (ig xv ed) (R9 (n:=0) T.bp)<|by with_unfolding_all rfl)<|v8 (k:=0)<|P1 (n:=0))
def mN:EF:=(fw (λY=>((C (λY=>((M 0) Y).bind λd=>((à<|eC<|.int 1) Y).bind λl=>(ð Y).bind λh=>gP d l h)<|C (e1 (En ym)<|L eG (M 0)<|eC<|.int 0) Å) Y).bind C4) 2 [] (gT<|Í (gV 0)<|Í (gV 1) Ù) (tb<|L (qM Ã) (M 1)<|eC .non)<|M 0)
def gD:List D->Option D:=Ï ["words"]
  (Ç (Ö (tb<|e1 (rL Ã ym)<|L eG (M 0)<|eC<|.int 0) (É mN) Ë)
  (É<|î (tb<|L (iI Ã) (L eG (M 0)<|eC<|.int 0)<|eC<|.str "plan") (λY=>(Å Y).bind λO=>U<|.lst O)<|cl lh<|C (M 0) Å))
theorem WG (T:Txt K mg a w):dR P w K mg base fQ 2 a.bW a.bX ["words"] (iP K a.ct [0] 0 gD) :=
 lf (S:=mO [0]) T.a1.fn λ_ _ _ _ _ _ hr nd=>(zc (lZ (zu1 T.br<|ig xv ed)<|xj<|pw<|uD (N:=["word","slot"]) (om:=mO [0,0]) (cap:=[]) (own:=2) (RF T.bV<|za (fJ<|wd (n:=0) (by decide) xv (wj ed) Cc)<|za (R4 (k:=0) T.br<|ig xv ed) ze) (λ_ _ _ _ _ h=>(u4 (n:=1) rfl<|yo (nM h)<|yo (nM h) vh)) (λ_ _ _ _ _=>(wq<|zT xv rq))<|λ_ _ _ _ _=>(XE.ow xv))<|zh<|jI<|Cb (tJ hr (ig xv ed)<|zl (n:=0)) (fJ<|yb (k:=0) zt)<|xc T.ad (VW T) hr<|za xv ze)
def lH:EF:=(fw (ß<|M 0) 1 [] im gW<|eN iM<|C (M 0) Å)
def iK:List D->Option D:=Ï ["numbers"]
  (É lH)
theorem ue (T:Txt K mg a w):dR P w K mg base fQ 1 a.bY a.bZ ["numbers"] (iP K a.ct [0] 0 iK) :=
 lf (S:=mO [0]) T.a2.fn λ_ _ _ _ _ _ hr nd=>(zh<|xj<|pw<|uD (N:=["number"]) (om:=mO [0]) (cap:=[]) (own:=1) (yp (n:=0) xv) (λ_ _ _ _ _ h=>(nM h)) (λ_ _ _ _ _=>yg)<|λ_ _ _ _ _=>(XE.ow<|zm (k:=0) zq yt rfl T.bU xi<|za xv ze))
def fD:List D->Option D:=Ï ["desk","name"]
  (É<|L xM (e1 ge<|e1 en<|M 0)<|M 1)
theorem uf (T:Txt K mg a w):dR P w K mg base fQ 1 a.b0 a.b1 ["desk","name"] (iP K a.ct [1,0] 0 fD) :=
 lf (S:=[.al 1,.ow 0]) T.a3.fn λ_ _ _ _ _ _ hr nd=>(zh<|jI<|Me (k:=0) (jO (uS xv T.bB) T.bA) xv)
def kn:List D->Option D:=Ý 0 ["desk","words"]
  (Ó (nj 0 [5,6] "net" (cl (gB 4)<|C (λY=>((M 1) Y).bind λd=>((à<|eC<|.int 1) Y).bind λl=>(ð Y).bind λh=>gP d l h)<|C (λY=>(Å Y).bind λO=>U<|.lst O) Å))
  (Ó (nj 0 [6] "table" (eC .non))
  (Ó (xV 0 [6]<|λY=>(Å Y).bind λO=>U<|.lst O)
  (á<|eC<|.str "ok"))))
theorem Ws (T:Txt K mg a w):dR P w K mg base fQ 6 a.b2 a.b3 ["desk","words"] (tH K a.ct 0 1 kn):=by refine yz (n:=0) (m:=1) (S:=[]) T.a4.fn Wi rfl rfl λxa kO A outer s H E hr=>?_;exact(z6 (Hw (i:=0) (oU rfl) T.bB<|fJ<|Hq T.f T.v (jp T) hr<|za (fJ<|wd (n:=0) (by decide) xv (wj ed) Cc)<|za (fJ<|yb (k:=0) zt) ze)<|z6 (Hw (i:=0) (oU rfl) T.bE rq)<|z6 (zu6 (i:=0) (oU rfl) T.bC<|yb (k:=0) zt)<|vv<|zl (n:=0))
def iy:List D->Option D:=Ý 0 ["desk","arrows"]
  (Ó (nj 0 [5,6] "net" (cl (gB 4)<|C (e1 ge<|e1 en<|M 0)<|C (M 1) Å))
  (Ó (nj 0 [6] "table" fg)
  (á<|eC<|.str "ok")))
theorem Wt (T:Txt K mg a w):dR P w K mg base fQ 6 a.b4 a.b5 ["desk","arrows"] (tH K a.ct 0 1 iy):=by refine yz (n:=0) (m:=1) (S:=[]) T.a5.fn Wj rfl rfl λxa kO A outer s H E hr=>?_;exact(z6 (Hw (i:=0) (oU rfl) T.bB<|fJ<|Hq T.f T.v (jp T) hr<|za (jO (uS xv T.bB) T.bA)<|za xv ze)<|z6 (Hw (i:=0) (oU rfl) T.bE rq)<|vv<|zl (n:=0))
def iz:List D->Option D:=Ý 0 ["desk","words"]
  (pG 0 (C (L dL (e1 f8<|e1 en<|M 0)<|cl i6<|C (M 1)<|C (e1 ge<|e1 en<|M 0) Å) Å) iy)
theorem u1 (T:Txt K mg a w):dR P w K mg base fQ 7 a.b6 a.b7 ["desk","words"] (tH K a.ct 0 1 iz):=by refine yz (n:=0) (m:=1) (S:=[]) T.a6.fn Wk rfl rfl λxa kO A outer s H E hr=>?_;exact(MI<|Mj (i:=0) (oU rfl) T.a5 (Wt T) hr (xk ww)<|yq (fJ<|iN (jO (uS xv T.bB) T.bv)<|xc T.ag (VQ T) hr<|za xv<|za (jO (uS xv T.bB) T.bA) ze) x8)
def nK:EF:=(fw (ß<|λY=>((M 1) Y).bind λd=>((à<|eC<|.int 2) Y).bind λl=>(ð Y).bind λh=>gP d l h) 1 [] (gV 0) gW<|eN jP<|C (M 0) Å)
def kQ:List D->Option D:=Ý 0 ["desk","words"]
  (Ó (nj 0 [6] "table" (cl (iJ 5)<|C (e1 en<|M 0)<|C nK<|C (eN jP<|C (L eG (M 1) dl) Å) Å))
  (á<|eC<|.str "ok"))
theorem WX (T:Txt K mg a w):dR P w K mg base fQ 4 a.b8 a.b9 ["desk","words"] (tH K a.ct 0 1 kQ):=by refine yz (n:=0) (m:=1) (S:=[]) T.a7.fn Xa rfl rfl λxa kO A outer s H E hr=>?_;exact(z6 (Hw (i:=0) (oU rfl) T.bE<|fJ<|Hq T.g T.aD (VZ T) hr<|za (uS xv T.bB)<|za (fJ<|Vl (N:=["word"]) (om:=mO [0]) (cap:=[]) (own:=1) (rK:=λ_ h=>nomatch h) (yp (n:=0)<|fJ<|wd (n:=0) (by decide) xv (wj ed) Cc) (λ_ _ _ _ _=>(nM<|show List.Nodup (["word"]:List Str)from by decide +kernel)) (λ_ _ _ _ _=>yg)<|λ_ _ _ _ _=>(XE.ow<|zm (k:=0) yj yy rfl T.bM x9<|za xv ze))<|za (zm (k:=0) yj yy rfl T.bM x9<|za (ig xv ed) ze) ze)<|vv<|zl (n:=0))
def ou:List D->Option D:=Ý 0 ["desk","words"]
  (Ó (An 0 [6]<|λY=>((C (cl fD<|C (M 0)<|C (L eG (M 1)<|eC<|.int 1) Å)<|C (eN jP<|C (L eG (M 1)<|eC<|.int 2) Å)<|C (eN jP<|C (L eG (M 1)<|eC<|.int 3) Å) Å) Y).bind λO=>U<|.tup O)
  (á<|eC<|.str "ok"))
theorem XB (T:Txt K mg a w):dR P w K mg base fQ 2 a.ca a.cb ["desk","words"] (tH K a.ct 0 1 ou):=by refine yz (n:=0) (m:=1) (S:=[]) T.a8.fn Xu rfl rfl λxa kO A outer s H E hr=>?_;exact(z6 (zu7 (i:=0) (oU rfl) T.bC<|fJ<|qx<|zj (jG T.a3 (uf T) hr<|za xv<|za (ig xv ed) ze)<|zj (XE.ow<|zm (k:=0) yj yy rfl T.bM x9<|za (ig xv ed) ze)<|zj (XE.ow<|zm (k:=0) yj yy rfl T.bM x9<|za (ig xv ed) ze) zt)<|vv<|zl (n:=0))
def pZ:List D->Option D:=Ý 0 ["desk","words"]
  (á<|cl nR<|C (e1 (dH [4] "names")<|e1 (dH [5,6] "net")<|M 0)<|C (λY=>((C (e1 (dH [5,6] "net")<|M 0)<|C (eN jP<|C (L eG (M 1)<|eC<|.int 1) Å) Å) Y).bind λO=>vI<|O++[.non,.non])<|C (eC<|.int 0) Å)
theorem Yr (T:Txt K mg a w):dR P w K mg base fQ 5 a.cc a.cd ["desk","words"] (tH K a.ct 0 1 pZ):=by refine yz (n:=0) (m:=1) (S:=[]) T.a9.fn Ym rfl rfl λxa kO A outer s H E hr=>?_;exact(vv<|xc T.aW (O6 T) hr<|za (jO (uS xv T.bB) T.bA)<|za (fJ<|jy (pH:=[.non,.non]) (ns:=[0,0]) (nd:=[0,0]) (RI T) (hr.mono<|by decide) rfl T.an.mgx T.an.fn.kp T.ap.choose_spec.2.2 T.ap.choose_spec.2.1 (λ_ _=>(.cons (Al.of .non)<|.cons (Al.of .non) .nil))<|za (uS xv T.bB)<|za (zm (k:=0) yj yy rfl T.bM x9<|za (ig xv ed) ze) ze)<|za ed ze)
def mZ:List D->Option D:=Ý 0 ["desk","words","paper"]
  (Ó (È 2<|λY=>((C (e1 (dH [5,6] "net")<|M 0)<|C (eN jP<|C (L eG (M 1)<|eC<|.int 1) Å) Å) Y).bind λO=>jA<|O++[.non])
  (á<|î (tb<|L (qM Ã) (M 2)<|eC .non) (eC<|.str "none")<|L oB (eC<|.str " ")<|cl iK<|C (L dL (λY=>((C (L eG (M 2)<|eC<|.int 0)<|C (L eG (M 2)<|eC<|.int 1) Å) Y).bind λO=>U<|.lst O)<|L eG (M 2)<|eC<|.int 2) Å))
theorem WY (T:Txt K mg a w):dR P w K mg base fQ 6 a.ce a.cf ["desk","words"] (tH K a.ct 0 1 mZ):=by refine yz (n:=0) (m:=1) (S:=mO [0]) T.ba.fn OC rfl rfl λxa kO A outer s H E hr=>?_;exact(z6 (lR OC.nd<|pw<|jy (pH:=[.non]) (ns:=[0,0]) (nd:=[0]) (Wo T) (hr.mono<|by decide) rfl T.aA.mgx T.aA.fn.kp T.aB.choose_spec.2.2 T.aB.choose_spec.2.1 (λ_ _=>(.cons (Al.of .non) .nil))<|za (uS xv T.bB)<|za (zm (k:=0) yj yy rfl T.bM x9<|za (ig xv ed) ze) ze)<|vv<|Cb (zT xv rq) (zl (n:=0))<|j5 (k:=0) (zl (n:=0))<|xc T.a2 (ue T) hr<|za (fJ<|iN (fJ<|yb (k:=0)<|zj (XE.ow<|ig xv ed)<|zj (XE.ow<|ig xv ed) zt)<|ig xv ed) ze)
def oh:List D->Option D:=Ý 0 ["desk","words"]
  (á<|cl nR<|C (e1 (dH [4] "names")<|e1 (dH [5,6] "net")<|M 0)<|C (λY=>((C (e1 (dH [6] "table")<|M 0)<|C (eN jP<|C (L eG (M 1)<|eC<|.int 1) Å)<|C (e1 (AH [6])<|M 0) Å) Y).bind λO=>oq<|O++[.non])<|C (eC<|.int 0) Å)
theorem XC (T:Txt K mg a w):dR P w K mg base fQ 4 a.cg a.ch ["desk","words"] (tH K a.ct 0 1 oh):=by refine yz (n:=0) (m:=1) (S:=[]) T.bb.fn Xv rfl rfl λxa kO A outer s H E hr=>?_;exact(vv<|xc T.aW (O6 T) hr<|za (jO (uS xv T.bB) T.bA)<|za (fJ<|jy (pH:=[.non]) (ns:=[0,0,1]) (nd:=[1]) (MJ T) (hr.mono<|by decide) rfl T.aG.mgx T.aG.fn.kp T.aH.choose_spec.2.2 T.aH.choose_spec.2.1 (λ_ _=>(.cons (Al.of .non) .nil))<|za (uS xv T.bE)<|za (zm (k:=0) yj yy rfl T.bM x9<|za (ig xv ed) ze)<|za (Mv (i:=0) (oU rfl) T.bC) ze)<|za ed ze)
def n9:List D->Option D:=Ý 0 ["desk","words","told"]
  (Ó (È 2<|cl vW<|C (e1 (dH [6] "table")<|M 0)<|C (e1 (AH [6])<|M 0)<|C (eN jP<|C (L eG (M 1)<|eC<|.int 1) Å) Å)
  (zK (tb<|L (qM Ã) (M 2)<|eC .non) (á<|eC<|.str "none")
  (zK (tb<|L (iI Ã) (L eG (M 2)<|eC<|.int 0)<|eC<|.str "died") (á<|L oB (eC<|.str " ")<|λY=>((C (eC<|.str "died")<|C (eN iM<|C (L eG (M 2)<|eC<|.int 1) Å) Å) Y).bind λO=>U<|.lst O)
  (á<|L oB (eC<|.str " ")<|λY=>((C (eC<|.str "ever")<|C (L eG (e1 (dH [4] "names")<|e1 (dH [5,6] "net")<|M 0)<|L eG (M 2)<|eC<|.int 1)<|C (eN iM<|C (L eG (M 2)<|eC<|.int 2) Å) Å) Y).bind λO=>U<|.lst O))))
theorem XD (T:Txt K mg a w):dR P w K mg base fQ 5 a.ci a.cj ["desk","words"] (tH K a.ct 0 1 n9):=by refine yz (n:=0) (m:=1) (S:=mO [0]) T.bc.fn OO rfl rfl λxa kO A outer s H E hr=>?_;exact(z6 (lR OO.nd<|jG T.aK (϶ T) hr<|za (uS xv T.bE)<|za (Mv (i:=0) (oU rfl) T.bC)<|za (zm (k:=0) yj yy rfl T.bM x9<|za (ig xv ed) ze) ze)<|RH (zT xv rq) (vv<|zl (n:=0))<|RH (tJ hr (ig xv ed)<|zl (n:=0)) (vv<|j5 (k:=0) (zl (n:=0))<|fJ<|yb (k:=0)<|zj (XE.ow<|zl (n:=0))<|zj (XE.ow<|zm (k:=0) zq yt rfl T.bU xi<|za (ig xv ed) ze) zt)<|vv<|j5 (k:=0) (zl (n:=0))<|fJ<|yb (k:=0)<|zj (XE.ow<|zl (n:=0))<|zj (XE.ow<|ig (jO (uS xv T.bB) T.bA)<|ig xv ed)<|zj (XE.ow<|zm (k:=0) zq yt rfl T.bU xi<|za (ig xv ed) ze) zt)
def og:List D->Option D:=Ý 0 ["desk","words","told"]
  (Ó (È 2<|cl p5<|C (e1 (dH [6] "table")<|M 0)<|C (e1 (AH [6])<|M 0)<|C (cl fD<|C (M 0)<|C (L eG (M 1) dl) Å)<|C (eN jP<|C (L eG (M 1)<|eC<|.int 2) Å) Å)
  (á<|î (tb<|L r6 (M 2) fg) (eC<|.str "none")<|L oB (eC<|.str " ")<|cl iK<|C (M 2) Å))
theorem XF (T:Txt K mg a w):dR P w K mg base fQ 6 a.ck a.cl ["desk","words"] (tH K a.ct 0 1 og):=by refine yz (n:=0) (m:=1) (S:=mO [0]) T.bd.fn OH rfl rfl λxa kO A outer s H E hr=>?_;exact(z6 (lR OH.nd<|pw<|jG T.aQ (Yq T) hr<|za (uS xv T.bE)<|za (Mv (i:=0) (oU rfl) T.bC)<|za (xc T.a3 (uf T) hr<|za xv<|za (ig xv ed) ze)<|za (zm (k:=0) yj yy rfl T.bM x9<|za (ig xv ed) ze) ze)<|vv<|Cb (zT xv rq) (zl (n:=0))<|j5 (k:=0) (zl (n:=0))<|xc T.a2 (ue T) hr<|za xv ze)
def lJ:Nat->List D->Option D:=CH ["self"]
  (Ç (mP [5,6] "net" (eC .non))
  (Ç (mP [6] "table" (eC .non))
  (Ç (mP [6] "puts" (λY=>(Å Y).bind λO=>U<|.lst O))
  (mP [6] "answered" (eC<|.int 0)))))
theorem Wu (T:Txt K mg a w):dR P w K mg base fQ 1 a.cm a.cn ["self"] (yQ K a.ct [6] [] lJ) :=
 Fg (S:=[]) (rk:=0) T.be.fn λ_ _ _ _ _ _ _ hr nd=>(zc (vt T.bB rq)<|zc (vt T.bE rq)<|zc (zu8 T.bC (fJ<|yb (k:=0) zt)<|λ_ _ h=>by cases h;nofun)<|zh<|vt T.bu ed)
def iB:List (Str×(List D->Option D)):=[("goings",kn),("wait",iz),("back",iz),("plan",kQ),("put",ou),("run",pZ),("again",mZ),("late",oh),("fate",n9),("give",og)]
def dN:List D->Option D:=Ý 0 ["self","row","words","answer"]
  (Ó (Ö (Û<|tb<|e1 (tW "str")<|M 1) Ø Ë)
  (Ó (È 2<|L nL (M 1)<|eC<|.str " ")
  (Ó (Ö (Û<|tb<|cl jR<|C (M 0)<|C (M 2) Å) Ø Ë)
  (Ó (Ö (tb<|L (iI Â) (L eG (M 2) db)<|eC<|.str "goings") (ä<|cl gI<|C (cl gD<|C (M 2) Å)<|C (e1 ge<|e1 en<|M 0) Å) Ë)
  (Ó (ê 3<|sD 0 (L eG (M 2) db) (C (M 2) Å) iB)
  (Ó (Ao 0 [6] "answered" dl)
  (á<|M 3)))))))
theorem yw (T:Txt K mg a w):dR P w K mg base fQ 8 a.co a.cp ["self","row"] (tH K a.ct 0 1 dN):=by refine yz (n:=0) (m:=1) (S:=mO [0,0]) T.bf.fn u6 rfl rfl λxa kO A outer s H E hr=>?_;exact(z6 (lZ (wa<|xn<|Fw (k:=0) (by decide) T.bN T.bU xi xv) xp)<|z6 (lR u6.nd<|pw<|PZ xv<|zl (n:=0))<|z6 (lZ (wa<|xn<|xc T.a0 (Zf T) hr<|za xv<|za xv ze) xp)<|z6 (lZ (Hh hr (ig xv ed)<|zl (n:=0))<|QA<|xc T.ae (j9 T) hr<|za (xc T.a1 (WG T) hr<|za xv ze)<|za (jO (uS xv T.bB) T.bA) ze)<|z6 (zuv rfl u6.nd rfl (Or.inl rfl)<|T.bs.elim λ_ h=>h.elim λ_ h=>zu4 (i:=0) (tb:=iB) (oU rfl) h.1 (w6 h.2.1 T.a4 (Ws T) hr<|w6 h.2.2.1 T.a6 (u1 T) hr<|w6 h.2.2.2.1 T.a6 (u1 T) hr<|w6 h.2.2.2.2.1 T.a7 (WX T) hr<|w6 h.2.2.2.2.2.1 T.a8 (XB T) hr<|w6 h.2.2.2.2.2.2.1 T.a9 (Yr T) hr<|w6 h.2.2.2.2.2.2.2.1 T.ba (WY T) hr<|w6 h.2.2.2.2.2.2.2.2.1 T.bb (XC T) hr<|w6 h.2.2.2.2.2.2.2.2.2.1 T.bc (XD T) hr<|w6 h.2.2.2.2.2.2.2.2.2.2.1 T.bd (XF T) hr Λ) (ig xv ed) (xk ww)<|yq xv x8)<|z6 (zu3 (i:=0) (oU rfl) T.bu ed)<|vv xv)
def eS:List D->Option D:=Ï ["_law_script","_law_k"]
  (Ç (Ö (tb<|L wQ (M 1)<|eN fV<|C (M 0) Å) (É<|L eG (M 0)<|M 1) Ë)
  (É db))
theorem yc (T:Txt K mg a w):dR P w K mg base fQ 1 a.cq a.cr ["_law_script","_law_k"] (iP K a.ct [0,0] 0 eS) :=
 lf (S:=mO [0,0]) T.bg.fn λ_ _ _ _ _ _ hr nd=>(zc (lZ (AS xv<|o6 T.bO<|za xv ze)<|jI<|ig xv xv)<|zh<|jI ed)
abbrev ms:=eC<|.int 2147483647
def fI:List D->Option D:=Ï ["_law_cell","_law_k","_law_number"]
  (Ç (Ö (Ü (tb<|L E9 (M 0)<|L CV dl<|eC<|.int 90)<|tb<|L uL (L AQ (M 0)<|L dL (eC<|.int 64)<|L jY (eC<|.int 31)<|M 1) db) (É<|L iA (L AQ (M 0)<|L dL (eC<|.int 64)<|L jY (eC<|.int 31)<|M 1)<|eC<|.int 2147483648) Ë)
  (Ç (È 2<|L iA (L jY (L dL (L dL (M 0)<|L jY (eC<|.int 7919)<|M 1) dl)<|eC<|.int 48271) ms)
  (Ç (È 2<|L iA (L jY (M 2)<|L dL (L iD (M 2)<|eC<|.int 1009)<|eC<|.int 69621) ms)
  (É<|L iA (L jY (M 2)<|L dL (L iD (M 2)<|eC<|.int 1013)<|eC<|.int 16807) ms))))
theorem xb (T:Txt K mg a w):dR P w K mg base fQ 1 a.cs a.cu ["_law_cell","_law_k"] (iP K a.ct [0,0] 0 fI) :=
 lf (S:=mO [0,0,0]) T.bh.fn λ_ _ _ _ _ _ hr nd=>(zc (lZ (XW.t<|Jn (On xv<|jx (k:=0) Ο zt9 ed ed)<|IR<|BQ (jx (k:=0) Rf QB xv<|fJ<|iN ed<|uW ed xv) ed)<|jI<|Þ (jx (k:=0) Rf QB xv<|fJ<|iN ed<|uW ed xv) ed)<|zc (nr nd<|Þ (uW (fJ<|iN (fJ<|iN xv<|uW ed xv) ed) ed) ed)<|zc (nr nd<|Þ (uW xv<|fJ<|iN (é xv ed) ed) ed)<|zh<|jI<|Þ (uW xv<|fJ<|iN (é xv ed) ed) ed)
def lI:SF:=(Ç (È 10<|L dL (L iD (M 0)<|L dL (eC<|.int 64)<|L jY (eC<|.int 37)<|M 9)<|L jY (M 7)<|eN AK<|C (L gf (M 9)<|M 5) Å)
  (Ö (tb<|L gf (M 9) db) (È 8<|L eG (M 2)<|L iA (M 10)<|eC<|.int 26)<|È 8<|L dL (M 8)<|L eG (M 3)<|L iA (M 10)<|eC<|.int 36))
def kd:SF:=(Ç (È 8<|eC<|.str "")
  (Ç (Ò (λY=>((C (M 4) Å) Y).bind lA) (gV 9) lI)
  (å 6<|M 8)))
def m6:List D->Option D:=Ï ["_law_cell","_law_many","_law_letters","_law_signs","_law_size","_law_at","_law_names_here","_law_k","_law_name","_law_j","_law_sign"]
  (Ç (È 2<|eC<|.str "abcdefghijklmnopqrstuvwxyz")
  (Ç (È 3<|L dL (M 2)<|eC<|.str "0123456789")
  (Ç (È 4<|L dL (eC<|.int 1)<|L iA (M 0)<|eC<|.int 8)
  (Ç (È 5<|L iA (L iD (M 0)<|eC<|.int 8)<|M 4)
  (Ç (È 6<|λY=>(Å Y).bind λO=>U<|.lst O)
  (Ç (Ò (λY=>((C (M 1) Å) Y).bind lA) (gV 7) kd)
  (É<|M 6)))))))
theorem WZ (T:Txt K mg a w):dR P w K mg base fQ 1 a.cv a.cw ["_law_cell","_law_many"] (iP K a.ct [0,0] 0 m6) :=
 lf (S:=mO [0,0,0,0,0,0,1,0,0,0,0]) T.bi.fn λ_ _ _ _ _ _ hr nd=>(zc (nr nd<|zl (n:=0))<|zc (lR nd<|pw<|iN xv<|zl (n:=0))<|zc (lR nd<|pw<|iN ed<|Þ xv ed)<|zc (nr nd<|Þ (é xv ed) xv)<|zc (lR nd<|yb (k:=0) zt)<|zc (xF (yk (n:=0) T.bR<|za xv ze) (p9 nd)<|zc (nr nd<|zl (n:=0))<|zc (xF (yk (n:=0) T.bR<|za xv ze) (p9 nd)<|zc (lR nd<|pw<|iN (é xv<|fJ<|iN ed<|uW ed xv)<|uW xv<|zm (k:=0) Yf zuh rfl T.bM x9<|za (Ą hr xv xv) ze)<|zh<|FD (tJ hr xv ed) (zh<|nr nd<|ig xv<|Þ xv ed)<|zh<|lR nd<|pw<|iN xv<|ig xv<|Þ xv ed)<|zh<|x6 6 rfl<|XE.ow xv)<|zh<|Hv (i:=6) rfl)
def gF:List D->Option D:=Ï ["_law_cell","_law_most"]
  (É<|L eG (λY=>((C (M 1)<|C (L kx (M 1)<|eC<|.int 1)<|C (M 1)<|C (L dL (eC<|.int 1)<|L iA (L iD (M 0)<|eC<|.int 4)<|M 1) Å) Y).bind λO=>U<|.lst O)<|L iA (M 0)<|eC<|.int 4)
theorem wg (T:Txt K mg a w):dR P w K mg base fQ 1 a.cx a.cy ["_law_cell","_law_most"] (iP K a.ct [0,0] 0 gF) :=
 lf (S:=mO [0,0]) T.bj.fn λ_ _ _ _ _ _ hr nd=>(zh<|jI<|ig (fJ<|yb (k:=0)<|zj (XE.ow xv)<|zj (XE.ow<|oX xv ed)<|zj (XE.ow xv)<|zj (pw<|iN ed<|Þ (é xv ed) xv) zt)<|Þ xv ed)
def iU:List D->Option D:=Ï ["_law_told","_law_many","_law_word","_law_lines"]
  (Ç (Ö (Û<|tb<|e1 (tW "str")<|M 0) ds Ë)
  (Ç (È 3<|L nL (M 0)<|eC<|.str "\n")
  (É<|eB<|Ü (tb<|L gf (eN fV<|C (M 3) Å)<|L dL (M 1) dl)<|tb<|L gf (L eG (L t8 (L eG (M 3)<|e1 vX dl)<|eC<|.str " ")<|eC<|.int 2)<|M 2)))
theorem OI (T:Txt K mg a w):dR P w K mg base fQ 1 a.cz a.cA ["_law_told","_law_many","_law_word"] (iP K a.ct [0,0,0] 0 iU) :=
 lf (S:=mO [0,0,0,0]) T.bk.fn λ_ _ _ _ _ _ hr nd=>(zc (lZ (wa<|xn<|Fw (k:=0) (by decide) T.bN T.bU xi xv)<|jI<|xu (n:=0))<|zc (lR nd<|pw<|PZ xv<|zl (n:=0))<|zh<|jI<|jc (Ą hr (o6 T.bO<|za xv ze)<|fJ<|iN xv ed)<|v8 (k:=0)<|Ą hr (ig (fJ<|zqn (ig xv<|Fv (k:=0) ed)<|zl (n:=0)) ed) xv)
def mL:List D->Option D:=Ý 0 ["_law_desk","_law_script","_law_both","_law_many","_law_most","_law_due"]
  (Ó (È 3<|cl gF<|C (cl fI<|C (cl eS<|C (M 1)<|C (eC<|.int 3) Å)<|C (eC<|.int 1) Å)<|C (eC<|.int 400) Å)
  (Ó (t9 (AL<|mB<|xI (k7 0 6 "say" (C (L dL (eC<|.str "run ")<|eN iM<|C (M 3) Å) Å) dN) (C (M 3)<|C (eN iM<|C (L jY (M 3)<|M 2) Å) Å) iU) (É<|eC<|.bl Ã) Ë)
  (Ó (È 4<|cl gF<|C (cl fI<|C (cl eS<|C (M 1)<|C (eC<|.int 3) Å)<|C (eC<|.int 2) Å)<|C (eC<|.int 200) Å)
  (Ó (È 5<|eC<|.str "none")
  (Ó (Ö (tb<|L uL (M 4)<|eC<|.int 1) (È 5<|L dL (L dL (L dL (eC<|.str "1 0 ")<|eN iM<|C (M 2) Å)<|eC<|.str " ")<|eN iM<|C (M 2) Å) Ë)
  (λY=>((k7 0 6 "say" (C (L dL (eC<|.str "again ")<|eN iM<|C (M 4) Å) Å) dN) Y).bind λr=>((M 5) r.2).bind λy=>((iI Ã) r.1 y).bind λd=>U (d,r.2)))))))
theorem XH (T:Txt K mg a w):dR P w K mg base fQ 9 a.cB a.cC ["_law_desk","_law_script","_law_both"] (tH K a.ct 0 2 mL):=by refine yz (n:=0) (m:=2) (S:=mO [0,0,0]) T.bl.fn wu rfl rfl λxa kO A outer s H E hr=>?_;exact(z6 (lR wu.nd<|jG T.bj (wg T) hr<|za (xc T.bh (xb T) hr<|za (xc T.bg (yc T) hr<|za xv<|za ed ze)<|za ed ze)<|za ed ze)<|z6 (qz (Mt<|Mu<|P0 T.bk (OI T) hr (wz (i:=0) (c0:=6) (oU rfl) T.h.cl T.bf (yw T) hr (xk ww)<|yq (fJ<|iN (zl (n:=0))<|zm (k:=0) zq yt rfl T.bU xi<|za xv ze) x8)<|za xv<|za (zm (k:=0) zq yt rfl T.bU xi<|za (uW xv xv) ze) ze) (zh<|jI<|xu (n:=0)) wb)<|z6 (lR wu.nd<|jG T.bj (wg T) hr<|za (xc T.bh (xb T) hr<|za (xc T.bg (yc T) hr<|za xv<|za ed ze)<|za ed ze)<|za ed ze)<|z6 (nr wu.nd<|zl (n:=0))<|z6 (lZ (BQ xv ed)<|lR wu.nd<|pw<|iN (fJ<|iN (fJ<|iN (zl (n:=0))<|zm (k:=0) zq yt rfl T.bU xi<|za xv ze)<|zl (n:=0))<|zm (k:=0) zq yt rfl T.bU xi<|za xv ze)<|MI<|QI (Ji hr.u64) vq (wz (i:=0) (c0:=6) (oU rfl) T.h.cl T.bf (yw T) hr (xk ww)<|yq (fJ<|iN (zl (n:=0))<|zm (k:=0) zq yt rfl T.bU xi<|za xv ze) x8) xv<|iL _)
def nD:SF:=(t9 (uV (iI Â) (k7 4 6 "say" (C (M 6) Å) dN)<|eC<|.str "ok") (É<|yZ fg) Ë)
def m5:List D->Option D:=Ï ["_law_script","_law_names_here","_law_one","_law_other","_law_desk","_law_rows","_law_row"]
  (Ç (È 4<|λ_=>lJ 6 [])
  (Ç (È 5<|λY=>((C (L dL (L dL (L dL (eC<|.str "goings ")<|L eG (M 1)<|eC<|.int 0)<|eC<|.str " ")<|L eG (M 1)<|eC<|.int 1)<|C (L dL (L dL (L dL (L dL (L dL (L dL (eC<|.str "wait ")<|L eG (M 1)<|eC<|.int 0)<|eC<|.str " ")<|L eG (M 1)<|eC<|.int 1)<|eC<|.str " ")<|eN iM<|C (M 2) Å)<|eC<|.str " 0") Å) Y).bind λO=>U<|.lst O)
  (Ç (å 5<|L dL (L dL (L dL (L dL (L dL (L dL (eC<|.str "back ")<|L eG (M 1)<|eC<|.int 1)<|eC<|.str " ")<|L eG (M 1)<|eC<|.int 0)<|eC<|.str " ")<|eN iM<|C (M 3) Å)<|eC<|.str " 1")
  (ù 5 (Ç (Ò (ß<|M 5) (gV 6) nD)
  (É<|M 4))))))
theorem W1 (T:Txt K mg a w):dR P w K mg base fQ 9 a.cD a.cE ["_law_script","_law_names_here","_law_one","_law_other"] (iP K a.ct [0,0,0,0] 1 m5) :=
 lf (S:=mO [0,0,0,0,1,1,0]) T.bm.fn λ_ _ _ _ _ _ hr nd=>(zc (lR nd<|zqm (c0:=6) T.h T.be (Wu T) hr)<|zc (lR nd<|yb (k:=0)<|zj (pw<|iN (fJ<|iN (fJ<|iN (zl (n:=0))<|ig xv ed)<|zl (n:=0))<|ig xv ed)<|zj (pw<|iN (fJ<|iN (fJ<|iN (fJ<|iN (fJ<|iN (fJ<|iN (zl (n:=0))<|ig xv ed)<|zl (n:=0))<|ig xv ed)<|zl (n:=0))<|zm (k:=0) zq yt rfl T.bU xi<|za xv ze)<|zl (n:=0)) zt)<|zc (x6 5 rfl<|pw<|iN (fJ<|iN (fJ<|iN (fJ<|iN (fJ<|iN (fJ<|iN (zl (n:=0))<|ig xv ed)<|zl (n:=0))<|ig xv ed)<|zl (n:=0))<|zm (k:=0) zq yt rfl T.bU xi<|za xv ze)<|zl (n:=0))<|Jq (i:=5) rfl<|zc (xF (xz xv) (p9 nd)<|zh<|qz (j6 (k:=0) (qr hr.u64) vq (wz (i:=4) (c0:=6) (yW rfl) T.h.cl T.bf (yw T) hr (xk ww)<|yq xv x8) (zl (n:=0))<|iL _) (zh<|xj<|DS rq) wb)<|zh<|zt4 (i:=4) rfl)
def lG:List D->Option D:=Ý 0 ["_law_desk","_law_script","_law_names_here","_law_amount","_law_when","_law_many","_law_due","_law_most","_law_turn"]
  (Ó (È 5<|cl gF<|C (cl fI<|C (cl eS<|C (M 1)<|C (eC<|.int 5) Å)<|C (eC<|.int 1) Å)<|C (eC<|.int 400) Å)
  (Ó (È 6<|eC<|.int 0)
  (Ó (Ö (tb<|L wQ (M 4)<|M 5) (È 6<|M 3) Ë)
  (Ó (t9 (AL<|mB<|xI (k7 0 6 "say" (C (L dL (eC<|.str "late ")<|eN iM<|C (M 5) Å) Å) dN) (C (M 5)<|C (eN iM<|C (M 6) Å) Å) iU) (É<|eC<|.bl Ã) Ë)
  (Ó (È 7<|cl gF<|C (cl fI<|C (cl eS<|C (M 1)<|C (eC<|.int 5) Å)<|C (eC<|.int 2) Å)<|C (eC<|.int 400) Å)
  (Ó (È 6<|eC<|.str "none")
  (Ó (Ö (tb<|L wQ (M 4)<|M 7) (È 6<|L dL (L dL (L dL (eC<|.str "ever ")<|L eG (M 2)<|eC<|.int 0)<|eC<|.str " ")<|eN iM<|C (M 4) Å) Ë)
  (Ó (t9 (uV (iI Â) (k7 0 6 "say" (C (L dL (eC<|.str "fate ")<|eN iM<|C (M 7) Å) Å) dN)<|M 6) (É<|eC<|.bl Ã) Ë)
  (Ó (È 8<|cl gF<|C (cl fI<|C (cl eS<|C (M 1)<|C (eC<|.int 5) Å)<|C (eC<|.int 3) Å)<|C (eC<|.int 60) Å)
  (Ó (È 6<|eC<|.str "")
  (Ó (Ö (tb<|L vV (M 4)<|M 8) (È 6<|eC<|.str "0") Ë)
  (λY=>((k7 0 6 "say" (C (L dL (L dL (L dL (eC<|.str "give ")<|L eG (M 2)<|eC<|.int 1)<|eC<|.str " ")<|eN iM<|C (M 8) Å) Å) dN) Y).bind λr=>((M 6) r.2).bind λy=>((iI Ã) r.1 y).bind λd=>U (d,r.2)))))))))))))
theorem XJ (T:Txt K mg a w):dR P w K mg base fQ 9 a.cF a.cG ["_law_desk","_law_script","_law_names_here","_law_amount","_law_when"] (tH K a.ct 0 4 lG):=by refine yz (n:=0) (m:=4) (S:=mO [0,0,0,0]) T.bn.fn yu rfl rfl λxa kO A outer s H E hr=>?_;exact(z6 (lR yu.nd<|jG T.bj (wg T) hr<|za (xc T.bh (xb T) hr<|za (xc T.bg (yc T) hr<|za xv<|za ed ze)<|za ed ze)<|za ed ze)<|z6 (nr yu.nd ed)<|z6 (lZ (AS xv xv)<|nr yu.nd xv)<|z6 (qz (Mt<|Mu<|P0 T.bk (OI T) hr (wz (i:=0) (c0:=6) (oU rfl) T.h.cl T.bf (yw T) hr (xk ww)<|yq (fJ<|iN (zl (n:=0))<|zm (k:=0) zq yt rfl T.bU xi<|za xv ze) x8)<|za xv<|za (zm (k:=0) zq yt rfl T.bU xi<|za xv ze) ze) (zh<|jI<|xu (n:=0)) wb)<|z6 (lR yu.nd<|jG T.bj (wg T) hr<|za (xc T.bh (xb T) hr<|za (xc T.bg (yc T) hr<|za xv<|za ed ze)<|za ed ze)<|za ed ze)<|z6 (nr yu.nd<|zl (n:=0))<|z6 (lZ (AS xv xv)<|lR yu.nd<|pw<|iN (fJ<|iN (fJ<|iN (zl (n:=0))<|ig xv ed)<|zl (n:=0))<|zm (k:=0) zq yt rfl T.bU xi<|za xv ze)<|z6 (qz (j6 (k:=0) (qr hr.u64) vq (wz (i:=0) (c0:=6) (oU rfl) T.h.cl T.bf (yw T) hr (xk ww)<|yq (fJ<|iN (zl (n:=0))<|zm (k:=0) zq yt rfl T.bU xi<|za xv ze) x8) xv<|iL _) (zh<|jI<|xu (n:=0)) wb)<|z6 (lR yu.nd<|jG T.bj (wg T) hr<|za (xc T.bh (xb T) hr<|za (xc T.bg (yc T) hr<|za xv<|za ed ze)<|za ed ze)<|za ed ze)<|z6 (nr yu.nd<|zl (n:=0))<|z6 (lZ (Oo xv xv)<|nr yu.nd<|zl (n:=0))<|MI<|QI (Ji hr.u64) vq (wz (i:=0) (c0:=6) (oU rfl) T.h.cl T.bf (yw T) hr (xk ww)<|yq (fJ<|iN (fJ<|iN (fJ<|iN (zl (n:=0))<|ig xv ed)<|zl (n:=0))<|zm (k:=0) zq yt rfl T.bU xi<|za xv ze) x8) xv<|iL _)
def BC:List D->Option D:=Ï ["_law_script","_law_names_here","_law_first","_law_one","_law_other","_law_desk","_law_begin","_law_times","_law_cell","_law_amount","_law_when"]
  (Ç (È 1<|cl m6<|C (cl eS<|C (M 0)<|C (eC<|.int 0) Å)<|C (eC<|.int 2) Å)
  (Ç (È 2<|cl fI<|C (cl eS<|C (M 0)<|C (eC<|.int 1) Å)<|C (eC<|.int 1) Å)
  (Ç (È 3<|L iA (L iD (M 2)<|eC<|.int 2)<|L eG (λY=>((C (eC<|.int 10)<|C (L dL (L oY (eC<|.int 10)<|eC<|.int 9)<|eC<|.int 1) Å) Y).bind λO=>U<|.lst O)<|L iA (M 2)<|eC<|.int 2)
  (Ç (È 4<|L iA (cl fI<|C (cl eS<|C (M 0)<|C (eC<|.int 2) Å)<|C (eC<|.int 1) Å)<|L eG (λY=>((C (eC<|.int 10)<|C (L dL (L oY (eC<|.int 10)<|eC<|.int 9)<|eC<|.int 1) Å) Y).bind λO=>U<|.lst O)<|L iA (M 2)<|eC<|.int 2)
  (Ç (È 5<|cl m5<|C (M 0)<|C (M 1)<|C (M 3)<|C (M 4) Å)
  (Ç (t9 (GL (mT<|tb<|L (qM Ã) (M 5)<|eC .non)<|AL<|mB<|pG 5 (C (M 0)<|C (L dL (M 3)<|M 4) Å) mL) (É<|eC<|.bl Ã) Ë)
  (Ç (È 6<|L eG (λY=>((C (eC<|.int 0)<|C (L kx (L oY (eC<|.int 10)<|eC<|.int 12)<|M 3)<|C (L kx (L kx (L oY (eC<|.int 10)<|eC<|.int 12)<|M 3)<|L iA (L iD (M 2)<|eC<|.int 8)<|eC<|.int 1000) Å) Y).bind λO=>U<|.lst O)<|L iA (L iD (M 2)<|eC<|.int 4)<|eC<|.int 3)
  (Ç (È 7<|L dL (L dL (L dL (eC<|.str " ")<|eN iM<|C (M 6) Å)<|eC<|.str " ")<|eN iM<|C (L dL (M 6)<|M 3) Å)
  (Ç (t9 (GL (uV (iI Â) (k7 5 6 "say" (C (L dL (eC<|.str "plan 1000000000000")<|M 7) Å) dN)<|eC<|.str "ok")<|uV (iI Â) (λY=>((CL eG (CL nL (k7 5 6 "say" (C (eC<|.str "late 1") Å) dN)<|eC<|.str "\n")<|eC<|.int 0) Y).bind λr=>(ð r.2).bind λl=>((à<|eC<|.int 5) r.2).bind λh=>(uC r.1 l h).bind λd=>U (d,r.2))<|eC<|.str "round") (É<|eC<|.bl Ã) Ë)
  (Ç (t9 (uV (iI Â) (k7 5 6 "say" (C (L dL (L dL (eC<|.str "plan ")<|eN iM<|C (L dL (M 3)<|M 4) Å)<|M 7) Å) dN)<|eC<|.str "ok") (É<|eC<|.bl Ã) Ë)
  (Ç (È 8<|cl fI<|C (cl eS<|C (M 0)<|C (eC<|.int 4) Å)<|C (eC<|.int 1) Å)
  (Ç (È 9<|L eG (λY=>((C (L oY (eC<|.int 10)<|eC<|.int 12)<|C (L dL (eC<|.int 1)<|L iA (L iD (M 8)<|eC<|.int 4)<|L oY (eC<|.int 10)<|eC<|.int 12) Å) Y).bind λO=>U<|.lst O)<|L iA (M 8)<|eC<|.int 2)
  (Ç (È 10<|L eG (λY=>((C (eC<|.int 400)<|C (eC<|.int 399)<|C (L iA (L iD (M 8)<|eC<|.int 64)<|eC<|.int 401)<|C (L iA (L iD (M 8)<|eC<|.int 64)<|eC<|.int 61) Å) Y).bind λO=>U<|.lst O)<|L iA (L iD (M 8)<|eC<|.int 2)<|eC<|.int 4)
  (Ç (t9 (uV (iI Â) (k7 5 6 "say" (C (L dL (L dL (L dL (L dL (L dL (eC<|.str "put ")<|L eG (M 1)<|eC<|.int 0)<|eC<|.str " ")<|eN iM<|C (M 10) Å)<|eC<|.str " ")<|eN iM<|C (M 9) Å) Å) dN)<|eC<|.str "ok") (É<|eC<|.bl Ã) Ë)
  (λY=>((pG 5 (C (M 0)<|C (M 1)<|C (M 9)<|C (M 10) Å) lG) Y).bind λr=>U<|.rt r.1)))))))))))))))
theorem Η (T:Txt K mg a w):dR P w K mg base fQ 10 a.cH a.cI ["_law_script"] (iP K a.ct [0] 0 BC) :=
 lf (S:=mO [0,0,0,0,0,1,0,0,0,0,0]) T.bo.fn λ_ _ _ _ _ _ hr nd=>(zc (lR nd<|jG T.bi (WZ T) hr<|za (xc T.bg (yc T) hr<|za xv<|za ed ze)<|za ed ze)<|zc (lR nd<|jG T.bh (xb T) hr<|za (xc T.bg (yc T) hr<|za xv<|za ed ze)<|za ed ze)<|zc (nr nd<|Þ (é xv ed)<|ig (fJ<|yb (k:=0)<|zj (XE.ow ed)<|zj (pw<|iN (jx (k:=0) Fx jz ed ed) ed) zt)<|Þ xv ed)<|zc (nr nd<|Þ (xc T.bh (xb T) hr<|za (xc T.bg (yc T) hr<|za xv<|za ed ze)<|za ed ze)<|ig (fJ<|yb (k:=0)<|zj (XE.ow ed)<|zj (pw<|iN (jx (k:=0) Fx jz ed ed) ed) zt)<|Þ xv ed)<|zc (lR nd<|jG T.bm (W1 T) hr<|za xv<|za xv<|za xv<|za xv ze)<|zc (qz (DZ.t<|RG (Κ<|zT xv rq)<|QJ<|Mt<|Mu<|Mj (i:=5) (yW rfl) T.bl (XH T) hr (xk<|xk ww)<|yq xv<|yq (fJ<|iN xv xv) x8) (zh<|jI<|xu (n:=0)) wb)<|zc (nr nd<|ig (fJ<|yb (k:=0)<|zj (XE.ow ed)<|zj (XE.ow<|oX (jx (k:=0) Fx jz ed ed) xv)<|zj (XE.ow<|oX (oX (jx (k:=0) Fx jz ed ed) xv)<|Þ (é xv ed) ed) zt)<|Þ (é xv ed) ed)<|zc (lR nd<|pw<|iN (fJ<|iN (fJ<|iN (zl (n:=0))<|zm (k:=0) zq yt rfl T.bU xi<|za xv ze)<|zl (n:=0))<|zm (k:=0) zq yt rfl T.bU xi<|za (fJ<|iN xv xv) ze)<|zc (qz (DZ.t<|RG (j6 (k:=0) (qr hr.u64) vq (wz (i:=5) (c0:=6) (yW rfl) T.h.cl T.bf (yw T) hr (xk ww)<|yq (fJ<|iN (zl (n:=0)) xv) x8) (zl (n:=0))<|iL _)<|QJ<|j6 (k:=0) (qr hr.u64) vq (YX (Vm (zqo (wz (i:=5) (c0:=6) (yW rfl) T.h.cl T.bf (yw T) hr (xk ww)<|yq (zl (n:=0)) x8)<|zl (n:=0)) ed) Cc<|wj ed) (zl (n:=0))<|iL _) (zh<|jI<|xu (n:=0)) wb)<|zc (qz (j6 (k:=0) (qr hr.u64) vq (wz (i:=5) (c0:=6) (yW rfl) T.h.cl T.bf (yw T) hr (xk ww)<|yq (fJ<|iN (fJ<|iN (zl (n:=0))<|zm (k:=0) zq yt rfl T.bU xi<|za (fJ<|iN xv xv) ze) xv) x8) (zl (n:=0))<|iL _) (zh<|jI<|xu (n:=0)) wb)<|zc (lR nd<|jG T.bh (xb T) hr<|za (xc T.bg (yc T) hr<|za xv<|za ed ze)<|za ed ze)<|zc (nr nd<|ig (fJ<|yb (k:=0)<|zj (XE.ow<|jx (k:=0) Fx jz ed ed)<|zj (pw<|iN ed<|Þ (é xv ed)<|jx (k:=0) Fx jz ed ed) zt)<|Þ xv ed)<|zc (nr nd<|ig (fJ<|yb (k:=0)<|zj (XE.ow ed)<|zj (XE.ow ed)<|zj (XE.ow<|Þ (é xv ed) ed)<|zj (XE.ow<|Þ (é xv ed) ed) zt)<|Þ (é xv ed) ed)<|zc (qz (j6 (k:=0) (qr hr.u64) vq (wz (i:=5) (c0:=6) (yW rfl) T.h.cl T.bf (yw T) hr (xk ww)<|yq (fJ<|iN (fJ<|iN (fJ<|iN (fJ<|iN (fJ<|iN (zl (n:=0))<|ig xv ed)<|zl (n:=0))<|zm (k:=0) zq yt rfl T.bU xi<|za xv ze)<|zl (n:=0))<|zm (k:=0) zq yt rfl T.bU xi<|za xv ze) x8) (zl (n:=0))<|iL _) (zh<|jI<|xu (n:=0)) wb)<|zh<|zu5<|Mj (i:=5) (yW rfl) T.bn (XJ T) hr (xk<|xk<|xk<|xk ww)<|yq xv<|yq xv<|yq xv<|yq xv x8)
end
local macro_rules| `(tactic|walk_at "mid")=>`(tactic|simp -implicitDefEqProofs [cl,Ï,Ý,Ó,á,ê,Ø,Ú,Ç,Ö,È,É,ø,ä,ÿ,Ā,å,Ò,ß,Ē,Ë,eC,e1,L,eN,Å,C,ð,à,wp,tb,đ,Û,Ü,è,eB,î,gV,gT,Í,Ù,Č,ut,ua,u5,ub,ċ,vi,ė,Ę,Ė,ħ,Ģ,D.isN,D.isB,j0,Đ,je,ur,jf,qy,Ď,ę,č,wp,uc,Ě,ù,ĕ,Ĕ, *])
local macro_rules| `(tactic|walk_at "mie")=>`(tactic|simp -implicitDefEqProofs [cl,Ï,Ý,Ó,á,ê,Ø,Ú,Ç,Ö,È,É,ø,ä,ÿ,Ā,å,Ò,ß,Ē,Ë,eC,e1,L,eN,Å,C,ð,à,wp,tb,đ,Û,Ü,è,eB,î,gV,gT,Í,Ù,Č,ut,ua,u5,ub,ċ,vi,ė,Ę,Ė,j0,Đ,je,ur,jf,qy,Ď,ę,č,wp,uc,Ě,ù,ĕ,Ĕ, *])
variable {α:Type}{cap:List Nat}{fi:L3.Env->Option (List D)}
theorem RJ {f:EF}{r:L3.Env}{n:Nat}(h:f r=dA n)(hn:n<=1000000):((C f Å) r).bind lA=U ((eF n).map λ(t:Nat)=>D.int t):=by
 have e:(C f Å) r=U [.int n]:=by unfold C;rw[h];rfl
 rw[e,gj,jg (by lia)<|by lia];unfold qG;simp
theorem u8 {own:Nat}{g:D->L3.Env->Option L3.Env}{p:BF}{f:EF}{r:L3.Env}(enc:α->D)(q:α->Bool)(h:α->D)(xs:List α)(hi:fi r=U (xs.map enc))(hl:xs.length<=16777216)
  (st:∀x∈xs,∃ρ1,g (enc x) (cY own G++rG r cap)=U ρ1/\p ρ1=U (q x)/\(q x=Â->f ρ1=U (h x))):fw fi own cap g p f r=gE ((xs.filter q).map h):=by
 unfold fw;rw[hi];simp only[gj,dr];rw[if_pos hl,Ps enc q h xs st];rfl
theorem yr {own:Nat}{g:D->L3.Env->Option L3.Env}{f:EF}{r:L3.Env}(enc:α->D)(h:α->D)(xs:List α)(hi:fi r=U (xs.map enc))(hl:xs.length<=16777216)
  (st:∀x∈xs,∃ρ1,g (enc x) (cY own G++rG r cap)=U ρ1/\f ρ1=U (h x)):fw fi own cap g gW f r=gE (xs.map h):=by
 have:=u8 (p:=gW) enc (λ_=>Â) h xs hi hl λx hx=>by obtain⟨ρ1,h1,h2⟩:=st x hx;exact⟨ρ1,h1,rfl,λ_=>h2⟩
 rw[this,List.filter_eq_self.mpr λ_ _=>rfl]
theorem IF {α:Type}(enc:α->D):∀(as:List α) (k:Nat),iC k (as.map enc)=(as.zipIdx k).map λ(p:α×Nat)=>D.tup [.int p.2,enc p.1]
 |[],_=>rfl
 |a::as,k=>by show _::iC (k+1) (as.map enc)=_::_;rw[IF enc as<|k+1]
theorem Ζ {as:List α}{p:α×Nat}(h:p∈as.zipIdx):as[p.2]?=U p.1:=List.mem_zipIdx_iff_getElem?.mp h
inductive Kd where
 |ride|wait|back
deriving DecidableEq
structure Ab where
 c:Kd
 s:Nat
 g:Nat
 t:Int
 b:Nat
noncomputable def Kd.n:Kd->Nat
 |.ride=>1|.wait=>2|.back=>3
def gw (a:Ab):D:=.obj a.c.n ["start","goal","time","behind"] [.int a.s,.int a.g,.int a.t,.int a.b]
def f7 (ns:List D)(as:List Ab):D:=.obj 4 ["names","arrows"] [.lst ns,.lst<|as.map gw]
structure qJ (mo:List Str)(as:List Ab):Prop where
 len:as.length<=120
 net:gB 4 [.lst<|mo.map .str,.lst<|as.map gw]=U (f7 (mo.map .str) as)
theorem Ph {α:Type}(f:α->Bool):∀xs:List α,pF (xs.map λx=>D.bl<|f x)=U (xs.map f)
 |[]=>rfl
 |x::xs=>by show(pF<|xs.map λx=>D.bl<|f x).bind _=_;rw[Ph f xs];rfl
theorem all_map (f:α->Bool)(xs:List α):lV [.lst<|xs.map λx=>D.bl<|f x]=U (.bl<|xs.all f):=by show(pF _).bind _=_;rw[Ph];show U (D.bl<|(xs.map f).all id)=_;rw[List.all_map];rfl
noncomputable def dh (ws:List Str):D:=.lst<|ws.map D.str
theorem Pj:∀ys:List Str,tq (ys.map .str)=U ys
 |[]=>rfl
 |y::ys=>by show(tq<|ys.map .str).bind _=_;rw[Pj ys];rfl
theorem Jj {b:Nat}:∀{ys:List Str},(∀y∈ys,y.length<=b)->(ys.map (·.length)).sum<=ys.length*b
 |[],_=>by simp
 |y::ys,h=>by have h1:=h y cK;have h2:=Jj (b:=b) (ys:=ys) λz hz=>h z<|cQ _ hz;rw[dC,C9,cX,yA];lia
theorem Ml (sp:Str):∀ys:List Str,(Str.join sp ys).length<=(ys.map (·.length)).sum+ys.length*sp.length
 |[]=>by unfold Str.join;exact e8 _
 |[y]=>by unfold Str.join;simp
 |y::z::ys=>by have ih:=Ml sp (z::ys);unfold Str.join;rw[ya,ya];simp only[dC,C9,cX]at ih ⊢;rw[yA];lia
theorem I0 {sp:Str}(hs:dD.strOk sp=Â):∀{ys:List Str},(∀y∈ys,dD.strOk y=Â)->dD.strOk (Str.join sp ys)=Â
 |[],_=>by unfold Str.join;decide +kernel
 |[y],h=>by unfold Str.join;exact h y cK
 |y::z::ys,h=>by have ih:=I0 hs (ys:=z::ys) λx hx=>h x<|cQ _ hx;unfold Str.join;exact Jp (Jp (h y cK) hs) ih
theorem Jk {sp:Str}{ys:List Str}{b:Nat}(h:∀y∈ys,y.length<=b)(hb:ys.length*b+ys.length*sp.length<=16777216):oB (.str sp) (dh ys)=U (.str<|Str.join sp ys):=by show(tq<|ys.map .str).bind _=_;rw[Pj];show(if _ then _ else _)=_;rw[if_pos<|by have:=Jj h;lia]
variable {w:Str}{ws:List Str}
noncomputable def fW (c:Nat):Str:=⟨#[c]⟩
theorem ug:(" ":Str)=fW 32:=by decide +kernel
theorem Vp:("\n":Str)=fW 10:=by decide +kernel
def oz (c:Nat)(w:Str):Prop:=c∉w.cps.toList
theorem RK {c:Nat}:∀{a b X Y':List Nat},c∉a->c∉b->a++c::X=b++c::Y'->a=b/\X=Y'
 |[],[],X,Y',_,_,h=>by simpa using h
 |[],y::b,X,Y',_,hb,h=>by
  have:c=y:=by simpa using(List.cons.inj h).1
  exact absurd (by rw[this];exact cK) hb
 |x::a,[],X,Y',ha,_,h=>by
  have:x=c:=by simpa using(List.cons.inj h).1
  exact absurd (by rw[this];exact cK) ha
 |x::a,y::b,X,Y',ha,hb,h=>by obtain⟨e,h2⟩:=List.cons.inj h;subst e;obtain⟨e1,L⟩:=RK (λz=>ha<|cQ _ z) (λz=>hb<|cQ _ z) h2;exact⟨by rw[e1],L⟩
theorem vc {x y:Str}(h:x.cps.toList=y.cps.toList):x=y:=by obtain⟨a⟩:=x;obtain⟨b⟩:=y;exact congrArg Str.mk<|sL.mp h
theorem xq (x y:Str):(x++y).cps.toList=x.cps.toList++y.cps.toList:=by show(x.cps++y.cps).toList=_;simp
theorem join_list (c:Nat)(a b:Str)(r:List Str):(Str.join (fW c) (a::b::r)).cps.toList=a.cps.toList++c::(Str.join (fW c) (b::r)).cps.toList:=by rw[show Str.join (fW c) (a::b::r)=a++fW c++Str.join (fW c) (b::r)from rfl,xq,xq];simp[fW]
theorem P3 {c:Nat}:∀{ws us:List Str},ws≠[]->us≠[]->(∀w∈ws,oz c w)->(∀w∈us,oz c w)->Str.join (fW c) ws=Str.join (fW c) us->ws=us
 |[],_,h,_,_,_,_=>absurd rfl h
 |_::_,[],_,h,_,_,_=>absurd rfl h
 |[a],[b],_,_,_,_,h=>by have h:a=b:=h;rw[h]
 |[a],b::b'::r,_,_,ha,_,h=>by have e:=congrArg (λx:Str=>x.cps.toList) h;rw[join_list]at e;have e:a.cps.toList=_:=e;exact absurd (by rw[e];simp)<|ha a cK
 |a::a'::r,[b],_,_,_,hb,h=>by have e:=congrArg (λx:Str=>x.cps.toList) h;rw[join_list]at e;have e:_=b.cps.toList:=e;exact absurd (by rw[←e];simp)<|hb b cK
 |a::a'::r,b::b'::r',_,_,ha,hb,h=>by have e:=congrArg (λx:Str=>x.cps.toList) h;rw[join_list,join_list]at e;obtain⟨e1,L⟩:=RK (ha a cK) (hb b cK) e;have:=P3 (ws:=a'::r) (us:=b'::r') (by simp) (by simp) (λw hw=>ha w<|cQ _ hw) (λw hw=>hb w<|cQ _ hw)<|vc L;rw[vc e1,this]
theorem zqu (x y:Str):Txt.split x y≠[]:=by
 unfold Txt.split;split
 ·simp
 ·split
  ·simp
  ·intro h;have:=congrArg yL h;rw[PyProof.Rows.len_partsBetween]at this;simp at this
theorem Ys {c:Nat}(h:ws≠[])(hf:∀w∈ws,oz c w):Txt.split (Str.join (fW c) ws) (fW c)=ws :=
 P3 (zqu _ _) h (StrLaws.split_free _ c) hf (StrLaws.join_split _ _)
theorem Q3 {c:Nat}{b:Nat}(h:ws≠[])(hf:∀w∈ws,oz c w)(hb:∀w∈ws,w.length<=b)(hz:ws.length*b+ws.length<=16777216):nL (.str<|Str.join (fW c) ws) (.str<|fW c)=U (dh ws):=by
 show(if _ then _ else _)=_;rw[Ys h hf,if_pos]
 ·rfl
 ·refine⟨rfl,?_,by lia⟩;have h1:=Ml (fW c) ws;have h2:=Jj hb;have:(fW c).length=1:=rfl;rw[this,Nat.mul_one]at h1;lia
theorem Q4 {c:Nat}{x y:Str}(hx:oz c x)(hy:oz c y):oz c (x++y):=by
 unfold oz;rw[xq];intro z;rcases dc.mp z with z|z
 ·exact hx z
 ·exact hy z
theorem P4 {c d:Nat}(hd:d≠c):∀{ws:List Str},(∀w∈ws,oz c w)->oz c (Str.join (fW d) ws)
 |[],_=>by unfold oz;show c∉([]:List Nat);simp
 |[a],h=>h a cK
 |a::b::r,h=>by
  have ih:=P4 hd (ws:=b::r) λw hw=>h w<|cQ _ hw;unfold oz at *;rw[join_list];intro z;rcases dc.mp z with z|z
  ·exact h a cK z
  ·rcases cP.mp z with z|z
   ·exact hd z.symm
   ·exact ih z
theorem JB (a c:Nat):vV (.str<|fW a) (.str<|fW c)=U (.bl<|decide<|a<=c):=by
 show U (D.bl<|!(decide<|[c] < [a]))=_;have:decide (([c]:List Nat) < [a])=decide (c<a):=by
  by_cases h:c<a
  ·rw[decide_eq_true h];exact decide_eq_true<|show([c]:List Nat) < [a]from List.Lex.rel h
  ·rw[decide_eq_false h,decide_eq_false];intro z;cases z with
   |rel q=>exact h q
   |cons q=>cases q
 rw[this];by_cases h:c<a
 ·rw[decide_eq_true h,decide_eq_false<|by lia];rfl
 ·rw[decide_eq_false h,decide_eq_true<|by lia];rfl
theorem P5 (c:Nat):lQ [.str<|fW c]=U (.bl<|decide<|97<=c/\c<=122):=by
 have h1:=JB 97 c;have h2:=JB c 122;have e1:("a":Str)=fW 97:=by decide +kernel
 have L:("z":Str)=fW 122:=by decide +kernel
 unfold lQ;rw[e1,L];by_cases k1:97<=c
 ·by_cases k2:c<=122
  ·rw[decide_eq_true ⟨k1,k2⟩];rw[decide_eq_true k1]at h1;rw[decide_eq_true k2]at h2;clear e1 L k1 k2;walk_at "mid"
  ·rw[decide_eq_false λz=>k2 z.2];rw[decide_eq_true k1]at h1;rw[decide_eq_false k2]at h2;clear e1 L k1 k2;walk_at "mid"
 ·rw[decide_eq_false λz=>k1 z.1];rw[decide_eq_false k1]at h1;clear e1 L k1 h2;walk_at "mid"
theorem P6 (c:Nat):lP [.str<|fW c]=U (.bl<|decide<|48<=c/\c<=57):=by
 have h1:=JB 48 c;have h2:=JB c 57;have e1:("0":Str)=fW 48:=by decide +kernel
 have L:("9":Str)=fW 57:=by decide +kernel
 unfold lP;rw[e1,L];by_cases k1:48<=c
 ·by_cases k2:c<=57
  ·rw[decide_eq_true ⟨k1,k2⟩];rw[decide_eq_true k1]at h1;rw[decide_eq_true k2]at h2;clear e1 L k1 k2;walk_at "mid"
  ·rw[decide_eq_false λz=>k2 z.2];rw[decide_eq_true k1]at h1;rw[decide_eq_false k2]at h2;clear e1 L k1 k2;walk_at "mid"
 ·rw[decide_eq_false λz=>k1 z.1];rw[decide_eq_false k1]at h1;clear e1 L k1 h2;walk_at "mid"
noncomputable def Er (c:Nat):Bool:=decide<|97<=c/\c<=122
noncomputable def JR (c:Nat):Bool:=decide<|48<=c/\c<=57
theorem wx (w:Str):w.cps.toList.length=w.length:=dQ
theorem Mm {x:Str}(h:x.length<=16777216):fV [.str x]=dA (x.length:Int):=by show(if x.length<=16777216 then U (D.int x.length)else G)=_;rw[if_pos h]
theorem vU {c:Nat}{r:List Nat}(h:w.cps.toList=c::r)(hl:w.length<=100):eG (.str w) (.int 0)=U (.str<|fW c):=by show(if w.length<=16777216 then(atI w.cps.toList 0).bind λc=>U (D.str ⟨#[c]⟩)else G)=_;rw[if_pos<|by lia,h,show atI (c::r) 0=U c from wy (xs:=c::r) (j:=0) rfl];rfl
def BG (w:Str):Bool:=match w.cps.toList with
 |[]=>Ã
 |c::r=>decide (r.length<8)&&Er c&&r.all λc=>Er c || JR c
theorem Pk (h:BG w=Â):nS [.str w]=U (.bl Â):=by
 unfold BG at h;cases hw:w.cps.toList with
 |nil=>rw[hw]at h;cases h
 |cons c r=>
  rw[hw]at h;dsimp only at h;rw[dE,dE]at h;obtain⟨⟨h1,h2⟩,h3⟩:=h;have h1:r.length<8:=of_decide_eq_true h1;have hl:=wx w;rw[hw,cX]at hl;have l1:=Mm (x:=w) (by lia);have x0:=vU hw (by lia);have t0:=P5 c;rw[show decide (97<=c/\c<=122)=Â from h2]at t0;have i1:tW "str" (.str w)=U (.bl Â):=rfl;have a1:eN lV (C m9 Å) [U<|.str w]=U (.bl Â):=by
   have:m9 [U<|.str w]=gE ((c::r).map λ_=>D.bl Â):=by
    refine yr (λc=>D.str<|fW c) (λ_=>D.bl Â) (c::r) ?_ (by simp;lia) λx hx=>⟨_,rfl,?_⟩
    ·show U (uB w)=_;unfold uB;rw[hw];rfl
    ·have k1:=P5 x;have k2:=P6 x;by_cases q:97<=x/\x<=122
     ·rw[decide_eq_true q]at k1;clear k2 q;walk_at "mid"
     ·rw[decide_eq_false q]at k1;have:48<=x/\x<=57:=by
       rcases cP.mp hx with rfl|hx
       ·exact absurd (of_decide_eq_true h2) q
       ·have:=gL.mp h3 x hx;rw[jC]at this;rcases this with z|z
        ·exact absurd (of_decide_eq_true z) q
        ·exact of_decide_eq_true z
      rw[decide_eq_true this]at k2;clear q this;walk_at "mid"
   unfold eN C;rw[this];show lV [.lst<|(c::r).map λ_=>D.bl Â]=_;rw[all_map];simp
  have c1:¬(w.length:Int)<1:=by lia
  have c2:¬(w.length:Int) > 8:=by lia
  generalize (w.length:Int)=wl at *;unfold nS;generalize eN lV (C m9 Å)=AA at *;clear h1 h2 h3 hl hw;walk_at "mid"
theorem uu (n:Nat):(eA n).cps.toList=(Nat.toDigits 10 n).map Char.toNat:=by unfold eA;rw[Str.ofString_eq_toList];have:(toString (n:Int):String)=zY n:=rfl;rw[this];unfold zY;rw[String.toList_ofList]
theorem Ja {n:Nat}{x:Nat}(h:x∈(eA n).cps.toList):48<=x/\x<=57:=by rw[uu]at h;obtain⟨c,hc,rfl⟩:=dP.mp h;have:=uN (b:=10) (by decide) (by decide) hc;unfold Char.isDigit at this;simp at this;exact⟨this.1,this.2⟩
theorem qj {c n:Nat}(h:c<48):oz c (eA n):=λz=>by have:=Ja z;lia
variable {mo:List Str}
theorem zqw:∀(n:Nat),1<=n->∃c r,Nat.toDigits 10 n=c::r/\c≠'0':=by
 intro n;induction n using Nat.strongRecOn with
 |_ n ih=>
  intro h;by_cases HN:n<10
  ·rw[Nat.toDigits_of_lt_base HN];have:∀m,m<10->1<=m->m.digitChar≠'0':=by decide
   exact⟨_,_,rfl,this n HN h⟩
  ·rw[Nat.toDigits_of_base_le (by decide)<|by lia];obtain⟨c,r,e,hc⟩:=ih (n/10) (by lia) (by lia);rw[e];exact⟨c,_,rfl,hc⟩
theorem yx {n:Nat}(h:n<1000000000000000):(eA n).length<=15:=by rw[←wx,uu,dr];exact(Nat.length_toDigits_le_iff (by decide)<|by decide).mpr (by lia)
theorem zqx:eA ((0:Nat):Int) = "0":=by decide +kernel
theorem IG {n:Nat}(h:n<1000000000000000):jQ [.str<|eA n]=U (.bl Â):=by
 have hl:=yx h;have l1:=Mm (x:=eA n) (by lia);have Gu:1<=(eA n).length:=by rw[←wx,uu,dr];exact xA
 have a1:eN lV (C kr Å) [U<|.str<|eA n]=U (.bl Â):=by
  have:kr [U<|.str<|eA n]=gE ((eA n).cps.toList.map λ_=>D.bl Â):=by refine yr (λc=>D.str<|fW c) (λ_=>D.bl Â) _ rfl (by rw[wx];lia) λx hx=>⟨_,rfl,?_⟩;have k2:=P6 x;rw[decide_eq_true<|Ja hx]at k2;clear hx l1;walk_at "mid"
  unfold eN C;rw[this];show lV [.lst<|(eA n).cps.toList.map λ_=>D.bl Â]=_;rw[all_map];simp
 have c1:¬((eA n).length:Int)<1:=by lia
 have c2:¬((eA n).length:Int) > 15:=by lia
 by_cases h0:n=0
 ·subst h0;rw[zqx]at *;have e1:iI Ã (.str "0") (.str "0")=U (.bl Â):=(xt (zw _)<|zw _).trans (by simp);generalize (("0":Str).length:Int)=wl at *;unfold jQ;generalize eN lV (C kr Å)=AA at *;clear hl Gu h;walk_at "mid"
 ·obtain⟨c,r,e,hc⟩:=zqw n (by lia);have hw:(eA n).cps.toList=c.toNat::r.map Char.toNat:=by rw[uu,e];rfl
  have x0:=vU hw (by lia);have ne:¬fW c.toNat = "0":=λz=>by
   have z:fW c.toNat=fW 48:=z.trans (by decide +kernel);have z:c.toNat=48:=by simpa[fW]using z
   exact hc<|Char.ext<|UInt32.toNat_inj.mp z
  have L:iI Â (.str<|fW c.toNat) (.str "0")=U (.bl Â):=by
   have hk:dD.strOk (fW c.toNat)=Â:=by have:=Ja (n:=n) (x:=c.toNat) (by rw[hw];exact cK);unfold dD.strOk fW;simp;lia
   rw[xt hk<|zw _,decide_eq_false ne];rfl
  obtain⟨bb,e1⟩:∃bb,iI Ã (.str<|eA n) (.str "0")=U (.bl bb):=⟨_,xt (uz _)<|zw _⟩;generalize ((eA n).length:Int)=wl at *;generalize eA n=w at *;unfold jQ;generalize eN lV (C kr Å)=AA at *;clear hl Gu h h0 e hc hw ne;cases bb
  ·walk_at "mid"
  ·walk_at "mid"
theorem qk {n:Nat}(h:n<1000000000000000):jP [.str<|eA n]=dA (n:Int):=by show(if(eA n).length<=640 then(PySem.intText? (eA n)).bind λi=>U (D.int i)else G)=_;have hl:=yx h;have e:=PySem.intText_digits (x:=eA n) (λc hc=>Ja hc) (λz=>by have z:=congrArg yL z;rw[uu,dr]at z;exact absurd z<|kc xA) (by lia);rw[uu,PySem.W.KIN.val_back]at e;rw[if_pos<|by lia,e];rfl
theorem Pl (hl:ws.length<=1000)(h:∀w∈ws,jQ [.str w]=U (.bl Â)):km [dh ws]=U (.bl Â):=by
 have a1:eN lV (C kI Å) [U<|dh ws]=U (.bl Â):=by
  have:kI [U<|dh ws]=gE (ws.map λ_=>D.bl Â):=by refine yr D.str (λ_=>D.bl Â) ws rfl (by lia) λw hw=>⟨_,rfl,?_⟩;have:=h w hw;clear h;walk_at "mid"
  unfold eN C;rw[this];show lV [.lst<|ws.map λ_=>D.bl Â]=_;rw[all_map];simp
 generalize dh ws=K' at *;unfold km;generalize eN lV (C kI Å)=AA at *;clear h hl;walk_at "mid"
def xX:Kd->Str
 |.ride=>"ride" |.wait=>"wait" |.back=>"back"
theorem Jr (k:Kd):dD.strOk (xX k)=Â:=by cases k<;>exact zw _
theorem M3 (neg:Bool)(k j:Kd):iI neg (.str<|xX k) (.str<|xX j)=U (.bl<|if neg then !decide (k=j)else decide (k=j)):=by
 rw[xt (Jr k)<|Jr j];have:decide (xX k=xX j)=decide (k=j):=by cases k<;>cases j<;>decide
 rw[this]
theorem zqy (k:Kd):iI Ã (.str<|xX k) (.str "line")=U (.bl Ã):=by
 rw[xt (Jr k)<|zw _];have:¬xX k = "line":=by cases k<;>decide +kernel
 rw[decide_eq_false this];rfl
structure iZ (mo:List Str):Prop where
 nd:mo.Nodup
 ok:∀x∈mo,BG x=Â
 le:mo.length<=40
theorem wk (h:BG w=Â):1<=w.length/\w.length<=8:=by
 unfold BG at h;rw[←wx];cases hw:w.cps.toList with
 |nil=>rw[hw]at h;cases h
 |cons c r=>rw[hw]at h;dsimp only at h;rw[dE,dE]at h;have:=of_decide_eq_true h.1.1;rw[cX];lia
theorem RL (h:BG w=Â){x:Nat}(hx:x∈w.cps.toList):48<=x/\x<=122:=by
 unfold BG at h;cases hw:w.cps.toList with
 |nil=>rw[hw]at hx;cases hx
 |cons c r=>
  rw[hw]at h hx;dsimp only at h;rw[dE,dE]at h;rcases cP.mp hx with rfl|hx
  ·have:=of_decide_eq_true (p:=97<=x/\x<=122) h.1.2;lia
  ·have:=gL.mp h.2 x hx;rw[jC]at this;rcases this with z|z
   ·have:=of_decide_eq_true (p:=97<=x/\x<=122) z;lia
   ·have:=of_decide_eq_true (p:=48<=x/\x<=57) z;lia
theorem qm (h:BG w=Â){c:Nat}(hc:c<48):oz c w:=λz=>by have:=RL h z;lia
theorem HD (h:BG w=Â):dD.strOk w=Â:=by unfold dD.strOk;rw[←sK,gL];intro x hx;have:=RL h hx;rw[decide_eq_true_iff];lia
noncomputable def mX (mo:List Str)(i:Nat):Str:=mo.getD i ""
theorem IH {i:Nat}(h:i<mo.length):mX mo i∈mo:=by unfold mX;rw[dG,dY h];exact lM h
theorem Q5 (ws:List Str):(ws.map D.str).all D.sc=Â:=by rw[List.all_map];exact gL.mpr λx _=>rfl
theorem II (nd:mo.Nodup){i:Nat}(h:i<mo.length):xM (dh mo) (.str<|mX mo i)=dA (i:Int):=by
 have hf:(mo.map D.str).findIdx? (λy=>F6 y<|.str<|mX mo i)=U i:=by
  rw[List.findIdx?_map];have e:mX mo i=mo[i]:=by unfold mX;rw[dG,dY h];rfl
  rw[e,rT];refine⟨h,?_,λj hj=>?_⟩
  ·show(mo[i]==mo[i])=Â;exact beq_self_eq_true _
  ·have T5:j<mo.length:=by lia
   have:mo[j]≠mo[i]:=λz=>by have:=(Bf (xs:=mo) (h₀:=T5) (h₁:=h) nd).mp z;lia
   show¬(mo[j]==mo[i])=Â;rw[beq_iff_eq];exact this
 show(if _ then _ else _)=_;rw[if_pos ⟨rfl,Q5 mo⟩,hf];rfl
theorem ϵ {x:Str}(h:x∈mo):ñ Â (.str x) (dh mo)=U (.bl Ã):=by
 have hi:B5 (.str x) (mo.map D.str)=Â:=by unfold B5;rw[List.any_map,Be];exact⟨x,h,beq_self_eq_true x⟩
 show(if _ then _ else _)=_;rw[if_pos ⟨rfl,Q5 mo⟩,hi];rfl
theorem zqz {told:List Str}(h:∀x∈told,x∈mo):gI [dh told,dh mo]=U .non:=by
 obtain⟨ρ',h1,x2,rfl⟩:=Qf (g:=gV 2) (b:=iS) (O:=told.map D.str) (Y:=[U<|dh told,U<|dh mo,G])
  (λ_ Y=>∃x2:Option D,Y=[U<|dh told,U<|dh mo,x2]) ⟨G,rfl⟩ (by rintro pre d post Y e ⟨x2,rfl⟩;have hx:=RB e;rw[eU]at hx;obtain⟨x,NX,rfl⟩:=kX.mp hx;have n1:=ϵ<|h x<|List.mem_iff_getElem?.mpr ⟨_,NX⟩;refine⟨_,_,rfl,.inl ?_,U<|.str x,rfl⟩;generalize dh told=T,dh mo=N at *;unfold iS;clear h hx NX e;walk_at "mid")
 have ls:ß (M 0) [U<|dh told,U<|dh mo,G]=U (told.map D.str):=rfl;generalize dh told=T,dh mo=N at *;unfold gI Ï Ú;show((Ò (ß<|M 0) (gV 2) iS) [U T,U N,G]).bind _=_;unfold Ò;rw[ls,gj,h1];rfl
structure Wr (n:Nat)(a:Ab):Prop where
 s:a.s<n
 g:a.g<n
 t0:0<=a.t
 t1:a.t<=1000000000
 b:a.b<=4
 r:a.c=.ride->a.b=0
def CS (mo:List Str)(a:Ab):List Str:=[xX a.c,mX mo a.s,mX mo a.g,eA a.t]++(if a.c=.ride then[]else[eA a.b])
structure Bn (mo ws:List Str)(as:List Ab):Prop where
 ne:ws≠[]
 f32:∀w∈ws,oz 32 w
 f10:∀w∈ws,oz 10 w
 wl:∀w∈ws,w.length<=15
 len:ws.length<=40
 form:gH [dh ws]=U (.bl Â)
 told:∃told,lh [dh ws]=U (dh told)/\∀x∈told,x∈mo
 arr:i6 [dh ws,dh mo]=gE (as.map gw)
theorem ϴ (k:Kd){c:Nat}(hc:c<48):oz c (xX k):=λz=>by
 have:∀x∈(xX k).cps.toList,48<=x:=by cases k<;>decide +kernel
 have:=this c z;lia
theorem ϳ (k:Kd):(xX k).length=4:=by cases k<;>decide +kernel
theorem ZR {a:Ab}(hn:iZ mo)(h:Wr mo.length a)(hw:w∈CS mo a):(∀c,c<48->oz c w)/\w.length<=15/\dD.strOk w=Â:=by
 obtain⟨t,ht⟩:∃t:Nat,a.t=(t:Int):=⟨a.t.toNat,by have:=h.t0;lia⟩;have t1:=h.t1;have hb:=h.b;have n1:=hn.ok _<|IH h.s;have n2:=hn.ok _<|IH h.g;have n1l:=wk n1;have n2l:=wk n2;unfold CS at hw;rw[ht]at hw t1;have e4:=yx (n:=t) (by lia);have e5:=yx (n:=a.b) (by lia);rcases dc.mp hw with hw|hw
 ·simp only[cP,dm,or_false]at hw;rcases hw with rfl|rfl|rfl|rfl
  ·exact⟨λc hc=>ϴ _ hc,by rw[ϳ];lia,Jr _⟩
  ·exact⟨λc hc=>qm n1 hc,by lia,HD n1⟩
  ·exact⟨λc hc=>qm n2 hc,by lia,HD n2⟩
  ·exact⟨λc hc=>qj hc,by lia,uz _⟩
 ·by_cases hc:a.c=.ride
  ·rw[if_pos hc]at hw;cases hw
  ·rw[if_neg hc,ef]at hw;subst hw;exact⟨λc hc=>qj hc,by lia,uz _⟩
theorem RM {a:Ab}(hn:iZ mo)(h:Wr mo.length a)(TR:a.c≠.ride):Bn mo (CS mo a) [a]:=by
 obtain⟨t,ht⟩:∃t:Nat,a.t=(t:Int):=⟨a.t.toNat,by have:=h.t0;lia⟩;have t1:=h.t1;have hb:=h.b;have k1:=IG (n:=t) (by lia);have k2:=IG (n:=a.b) (by lia);have v1:=qk (n:=t) (by lia);have v2:=qk (n:=a.b) (by lia);have d1:=II hn.nd h.s;have d2:=II hn.nd h.g;have q1:=M3 Ã a.c .ride;have q2:=M3 Ã a.c .wait;have q3:=M3 Ã a.c .back;have q4:=zqy a.c;rw[if_neg<|by decide,show xX .ride = "ride" from rfl]at q1;rw[if_neg<|by decide,show xX .wait = "wait" from rfl]at q2;rw[if_neg<|by decide,show xX .back = "back" from rfl]at q3;have m1:=IH h.s;have m2:=IH h.g;have mem:=λw hw=>ZR (w:=w) hn h hw;obtain⟨c,s,g,tt,b⟩:=a;dsimp only at *;subst ht;obtain⟨r,hr⟩:∃r,r=if c=.ride then[]else[eA b]:=⟨_,rfl⟩;have ew:CS mo ⟨c,s,g,(t:Int),b⟩=xX c::mX mo s::mX mo g::eA (t:Int)::r:=by rw[hr];rfl
 have rl:r.length<=1:=by rw[hr];split<;>simp
 rw[ew]at mem ⊢;obtain⟨K',hL⟩:∃K',K'=dh (xX c::mX mo s::mX mo g::eA (t:Int)::r):=⟨_,rfl⟩;have x0:eG K' (.int 0)=U (.str<|xX c):=by rw[hL];exact wy (j:=0) rfl
 have x1:eG K' (.int 1)=U (.str<|mX mo s):=by rw[hL];exact wy (j:=1) rfl
 have x2:eG K' (.int 2)=U (.str<|mX mo g):=by rw[hL];exact wy (j:=2) rfl
 have x3:eG K' (.int 3)=U (.str<|eA t):=by rw[hL];exact wy (j:=3) rfl
 have sl:gP K' (U 1) (U 3)=U (dh [mX mo s,mX mo g]):=by rw[hL];show U (D.lst<|ã _ (U ((1:Nat):Int))<|U ((3:Nat):Int))=_;rw[Zo];rfl
 have ar:lc [K',dh mo]=U (gw ⟨c,s,g,(t:Int),b⟩)/\gH [K']=U (.bl Â):=by
  have hc:=TR
  ·rw[if_neg hc]at hr;have r2:nH 2 [.int s,.int g,.int t,.int b]=U (gw ⟨.wait,s,g,(t:Int),b⟩):=rfl;have r3:nG 3 [.int s,.int g,.int t,.int b]=U (gw ⟨.back,s,g,(t:Int),b⟩):=rfl;have ln:fV [K']=dA 5:=by rw[hL,hr];rfl
   have x4:eG K' (.int 4)=U (.str<|eA b):=by rw[hL,hr];exact wy (j:=4) rfl
   have s3:gP K' (U 3) G=U (dh [eA t,eA b]):=by rw[hL,hr];show U (D.lst<|ã _ (U ((3:Nat):Int)) G)=_;rw[wt];rfl
   have nn:=Pl (ws:=[eA t,eA b]) (by simp) λw hw=>by
    simp only[cP,dm,or_false]at hw;rcases hw with rfl|rfl
    ·exact k1
    ·exact k2
   generalize dh [eA t,eA b]=L3,dh mo=N at *;clear mem h hn m1 m2 t1 hb q4 sl hL hr ew;unfold lc gH;cases c
   ·exact absurd rfl hc
   ·rw[decide_eq_false hc]at q1;rw[decide_eq_true rfl]at q2;generalize gw ⟨.wait,s,g,(t:Int),b⟩=E at *;clear r3 q3 hc;constructor<;>walk_at "mid"
   ·rw[decide_eq_false hc]at q1;rw[decide_eq_false<|by decide]at q2;rw[decide_eq_true rfl]at q3;generalize gw ⟨.back,s,g,(t:Int),b⟩=E at *;clear r2 hc;constructor<;>walk_at "mid"
 refine⟨by simp,λw hw=>(mem w hw).1 32<|by decide,λw hw=>(mem w hw).1 10<|by decide,λw hw=>(mem w hw).2.1,by simp;lia,hL▸ar.2,⟨[mX mo s,mX mo g],?_,?_⟩,?_⟩
 ·rw[←hL];clear mem h hn m1 m2 hL ew hr k1 k2 v1 v2 d1 d2 q1 q2 q3 x1 x2 x3 ar;unfold lh;walk_at "mid"
 ·intro x hx;simp only[cP,dm,or_false]at hx;rcases hx with rfl|rfl
  ·exact m1
  ·exact m2
 ·rw[←hL];have ar:=ar.1;show _=U (D.lst [gw ⟨c,s,g,(t:Int),b⟩]);generalize gw ⟨c,s,g,(t:Int),b⟩=ea,dh mo=N at *;clear mem h hn m1 m2 hL ew hr k1 k2 v1 v2 d1 d2 q1 q2 q3 x1 x2 x3;unfold i6;walk_at "mid"
theorem Lo (c:Nat):(fW c).length=1:=rfl
theorem M4 {t:Int}(h0:0<=t)(h1:t<=1000000000000000):iM [.int t]=U (.str<|eA t):=by
 show(if t.natAbs.log2<1920 then _ else _)=_;rw[if_pos];have:=Nat.log2_le_self t.natAbs;by_cases hz:t.natAbs=0
 ·rw[hz];decide
 ·rw[qI hz];refine rV (m:=2 ^ 60) (by lia) ?_;exact Nat.pow_lt_pow_right (by decide) (by decide)
theorem Ε {c:Nat}(hc:c<48):oz c ("goings":Str):=λz=>by
 have:∀x∈("goings":Str).cps.toList,48<=x:=by decide +kernel
 have:=this c z;lia
theorem RN (hn:iZ mo)(hw:w∈(("goings":Str)::mo)):(∀c,c<48->oz c w)/\w.length<=15/\dD.strOk w=Â:=by
 rcases cP.mp hw with rfl|hw
 ·exact⟨λc hc=>Ε hc,by decide,zw _⟩
 ·have:=wk<|hn.ok w hw;exact⟨λc hc=>qm (hn.ok w hw) hc,by lia,HD<|hn.ok w hw⟩
def TV (mo:List Str):Str:=Str.join (fW 32) ("goings"::mo)
variable {as:List Ab}{es:List D}{gs:L3.Env->Option (List D)}{nt pt tl:D}
noncomputable def dk (nt tl pt:D)(n:Int):D:=.obj 6 ["net","table","puts","answered"] [nt,tl,pt,.int n]
theorem yX:lJ 6 []=U (dk .non .non (.lst []) 0):=by unfold lJ;rfl
section
variable {d:D}{n:Int}{r:L3.Env}{f:EF}
theorem Q6 (h:f (U (dk nt tl pt n)::r)=U d):nj 0 [5,6] "net" f (U (dk nt tl pt n)::r)=U (.nx (U (dk d tl pt n)::r)):=by unfold nj;rw[h];rfl
theorem LO (h:f (U (dk nt tl pt n)::r)=U d):nj 0 [6] "table" f (U (dk nt tl pt n)::r)=U (.nx (U (dk nt d pt n)::r)):=by unfold nj;rw[h];rfl
theorem ZS (h:f (U (dk nt tl pt n)::r)=gE es):xV 0 [6] f (U (dk nt tl pt n)::r)=U (.nx (U (dk nt tl (.cel es) n)::r)):=by unfold xV;rw[h];rfl
theorem ϲ:Ao 0 [6] "answered" (eC<|.int 1) (U (dk nt tl pt n)::r)=U (.nx (U (dk nt tl pt<|n+1)::r)):=rfl
end
theorem Δ {bs:List Ab}{n:Int}(ok:qJ mo bs):iy [dk (f7 (mo.map .str) as) tl pt n,.lst<|bs.map gw]=U (.tup [.str "ok",dk (f7 (mo.map .str) bs) .non pt n]):=by have nt:=ok.net;have f1:dH [4] "names" (f7 (mo.map .str) as)=gE (mo.map .str):=rfl;have f2:dH [5,6] "net" (dk (f7 (mo.map .str) as) tl pt n)=U (f7 (mo.map .str) as):=rfl;generalize f7 (mo.map .str) as=n1,f7 (mo.map .str) bs=n2 at *;generalize mo.map D.str=N,bs.map gw=B at *;have p1:=Q6 (f:=cl (gB 4)<|C (e1 (dH [4] "names")<|e1 (dH [5,6] "net")<|M 0)<|C (M 1) Å) (nt:=n1) (tl:=tl) (pt:=pt) (n:=n) (r:=[gE B]) (d:=n2) (by clear ok;walk_at "mid");have p2:=LO (f:=eC .non) (nt:=n2) (tl:=tl) (pt:=pt) (n:=n) (r:=[gE B]) (d:=.non) rfl;unfold iy;clear ok nt f1 f2;generalize (cl (gB 4)<|C (e1 (dH [4] "names")<|e1 (dH [5,6] "net")<|M 0)<|C (M 1) Å)=FN at *;generalize nj 0 [5,6] "net" FN=S1,nj 0 [6] "table" (eC .non)=S2 at *;walk_at "mid"
theorem Zg {n:Int}(ok:qJ mo []):kn [dk nt tl pt n,dh ("goings"::mo)]=U (.tup [.str "ok",dk (f7 (mo.map .str) []) .non (.cel []) n]):=by
 have nw:=ok.net;have s1:gP (dh ("goings"::mo)) (U 1) G=gE (mo.map .str):=by show U (D.lst<|ã _ (U ((1:Nat):Int)) G)=_;rw[wt];rfl
 replace nw:gB 4 [.lst<|mo.map .str,.lst []]=U (f7 (mo.map .str) []):=nw;generalize f7 (mo.map .str) []=n2 at *;generalize mo.map D.str=N,dh ("goings"::mo)=K' at *;have p1:=Q6 (f:=cl (gB 4)<|C (λY=>((M 1) Y).bind λd=>((à<|eC<|.int 1) Y).bind λl=>(ð Y).bind λh=>gP d l h)<|C (λY=>(Å Y).bind λO=>(gE O)) Å) (nt:=nt) (tl:=tl) (pt:=pt) (n:=n) (r:=[U K']) (d:=n2) (by clear ok;walk_at "mid");have p2:=LO (f:=eC .non) (nt:=n2) (tl:=tl) (pt:=pt) (n:=n) (r:=[U K']) (d:=.non) rfl;have p3:=ZS (f:=λY=>(Å Y).bind λO=>(gE O)) (nt:=n2) (tl:=.non) (pt:=pt) (n:=n) (r:=[U K']) (es:=[]) rfl;unfold kn;clear ok nw s1;generalize (cl (gB 4)<|C (λY=>((M 1) Y).bind λd=>((à<|eC<|.int 1) Y).bind λl=>(ð Y).bind λh=>gP d l h)<|C (λY=>(Å Y).bind λO=>(gE O)) Å)=FN at *;generalize nj 0 [5,6] "net" FN=S1,nj 0 [6] "table" (eC .non)=S2,xV 0 [6] (λY=>(Å Y).bind λO=>(gE O))=S3 at *;walk_at "mid"
section
variable {bs:List Ab}{n:Int}
theorem ť {r:L3.Env}(ok:qJ mo bs)(h:gs (U (dk (f7 (mo.map .str) as) tl pt n)::r)=U [.lst<|bs.map gw]):pG 0 gs iy (U (dk (f7 (mo.map .str) as) tl pt n)::r)=U (.str "ok",U (dk (f7 (mo.map .str) bs) .non pt n)::r):=by unfold pG;rw[h];show(if nI (dk (f7 (mo.map .str) as) tl pt n)=Â then(iy [dk (f7 (mo.map .str) as) tl pt n,.lst<|bs.map gw]).bind _ else G)=_;rw[Δ ok];rfl
theorem Zh (ok:qJ mo<|as++bs)(hr:Bn mo ws bs):iz [dk (f7 (mo.map .str) as) tl pt n,dh ws]=U (.tup [.str "ok",dk (f7 (mo.map .str)<|as++bs) .non pt n]):=by
 have f1:dH [4] "names" (f7 (mo.map .str) as)=U (dh mo):=rfl;have f3:dH [4] "arrows" (f7 (mo.map .str) as)=gE (as.map gw):=rfl;have f2:dH [5,6] "net" (dk (f7 (mo.map .str) as) tl pt n)=U (f7 (mo.map .str) as):=rfl;have ar:=hr.arr;have ad:dL (.lst<|as.map gw) (.lst<|bs.map gw)=gE ((as++bs).map gw):=by rw[kM];refine Qg ?_;have:=ok.len;rw[ee]at this;simp only[dr];lia
 have J:=ť (as:=as) (tl:=tl) (pt:=pt) (n:=n) (gs:=C (L dL (e1 (dH [4] "arrows")<|e1 (dH [5,6] "net")<|M 0)<|cl i6<|C (M 1)<|C (e1 (dH [4] "names")<|e1 (dH [5,6] "net")<|M 0) Å) Å) (r:=[U<|dh ws]) ok (by generalize f7 (mo.map .str) as=n1 at *;generalize dk n1 tl pt n=d1,as.map gw=A,bs.map gw=B,(as++bs).map gw=AB,dh mo=N,dh ws=W at *;clear ok hr;walk_at "mid");unfold iz;generalize pG 0 _ iy=CF,f7 (mo.map .str) as=n1,f7 (mo.map .str) (as++bs)=n2 at *;generalize dk n1 tl pt n=d1,dk n2 .non pt n=d2 at *;clear ok hr f1 f2 f3 ar ad;walk_at "mid"
end
variable {w0:Str}
noncomputable abbrev Dj:=Option<|Int×Int
def wR:Dj->D
 |none=>.non
 |some (l,h)=>.kt [.int l,.int h]
def Ă (p:Str×Dj):Prop:=∀l h,p.2=U (l,h)->∃n:Nat,p.1=eA n/\n<1000000000000000/\l<=(n:Int)/\(n:Int)<=h
theorem ZT {p:Str×Dj}(h:Ă p):iV [.str p.1,wR p.2]=U (.bl Â):=by
 obtain⟨w,s⟩:=p;cases s with
 |none=>show iV [.str w,.non]=_;have i1:qM Ã .non .non=U (.bl Â):=rfl;unfold iV;clear h;walk_at "mid"
 |some q=>obtain⟨l,u⟩:=q;obtain⟨n,e,hn,h1,h2⟩:=h l u rfl;have e:w=eA (n:Int):=e;subst e;show iV [.str<|eA n,.kt [.int l,.int u]]=_;have i1:qM Ã (.kt [.int l,.int u]) .non=U (.bl Ã):=rfl;have nm:=IG hn;have ni:=qk hn;have x0:eG (.kt [.int l,.int u]) (.int 0)=dA l:=rfl;have x1:eG (.kt [.int l,.int u]) (.int 1)=dA u:=rfl;generalize eA n=w at *;unfold iV;clear h hn;walk_at "mid"
theorem Pm {α:Type}(f g:α->D):∀xs:List α,rS (xs.map f) (xs.map g)=xs.map λx=>.tup [f x,g x]
 |[]=>rfl
 |x::xs=>congrArg (D.tup [f x,g x]::·)<|Pm f g xs
section
variable {ps:List (Str×Dj)}
def mQ (w0:Str)(ps:List<|Str×Dj):List Str:=w0::ps.map (·.1)
theorem Q7:gP (dh<|mQ w0 ps) (U 1) G=gE (ps.map λp=>.str p.1):=by show U (D.lst<|ã _ (U ((1:Nat):Int)) G)=_;rw[wt];show U (D.lst<|(ps.map (·.1)).map D.str)=_;rw[fk];rfl
theorem C3 {r:List Str}:eG (dh (w0::r)) (.int 0)=U (.str w0):=wy (xs:=(w0::r).map D.str) (j:=0) rfl
theorem Qn:C4 [.lst<|ps.map λp=>.str p.1,.kt<|ps.map λp=>wR p.2]=U (ps.map λp=>.tup [.str p.1,wR p.2]):=congrArg U<|Pm _ _ ps
theorem Ť (hk:En ym (.str w0)=U (.kt<|ps.map λp=>wR p.2))(hl:ps.length<=100)(hf:∀p∈ps,Ă p):mJ [dh<|mQ w0 ps]=U (.bl Â):=by
 have x0:eG (dh<|mQ w0 ps) (.int 0)=U (.str w0):=C3;have sl:=Q7 (w0:=w0) (ps:=ps);have zf:=Qn (ps:=ps);have a1:eN lV (C mw Å) [U<|dh<|mQ w0 ps,U<|.kt<|ps.map λp=>wR p.2]=U (.bl Â):=by
  have:mw [U<|dh<|mQ w0 ps,U<|.kt<|ps.map λp=>wR p.2]=gE (ps.map λ_=>D.bl Â):=by
   refine yr (λp:Str×Dj=>D.tup [.str p.1,wR p.2]) (λ_=>D.bl Â) ps ?_ (by lia) λp hp=>⟨_,rfl,?_⟩
   ·generalize (ps.map λp=>D.tup [.str p.1,wR p.2])=R at *;generalize (ps.map λp=>D.str p.1)=R1,D.kt (ps.map λp=>wR p.2)=R2,dh (mQ w0 ps)=K' at *;clear hf hl hk x0;walk_at "mid"
   ·have:=ZT<|hf p hp;generalize wR p.2=W' at *;clear hf hl hk zf sl;walk_at "mid"
  unfold eN C;rw[this];show lV [.lst<|ps.map λ_=>D.bl Â]=_;rw[all_map];simp
 have l1:fV [dh<|mQ w0 ps]=dA (ps.length+1):=(vi _).trans (by unfold mQ;simp);have l2:fV [.kt<|ps.map λp=>wR p.2]=dA (ps.length:Int):=by show U (D.int (((ps.map λp=>wR p.2).length:Nat):Int))=_;rw[dr]
 unfold mJ;generalize eN lV (C mw Å)=AA,D.kt (ps.map λp=>wR p.2)=R2,dh (mQ w0 ps)=K',(ps.length:Int)=pl at *;clear hf hl sl zf;walk_at "mid"
theorem ţ (hk:En ym (.str w0)=U (.kt<|ps.map λp=>wR p.2))(hi:rL Ã ym (.str w0)=U (.bl Â))(hl:ps.length<=100):gD [dh<|mQ w0 ps]=U (dh<|(ps.filter λp=>p.2.isNone).map (·.1)):=by
 have x0:eG (dh<|mQ w0 ps) (.int 0)=U (.str w0):=C3;have sl:=Q7 (w0:=w0) (ps:=ps);have zf:=Qn (ps:=ps);have q1:mN [U<|dh<|mQ w0 ps]=U (dh<|(ps.filter λp=>p.2.isNone).map (·.1)):=by
  unfold dh;rw[fk];refine u8 (λp:Str×Dj=>D.tup [.str p.1,wR p.2]) (λp=>p.2.isNone) (λp=>D.str p.1) ps ?_ (by lia) λp hp=>⟨_,rfl,?_,λ_=>rfl⟩
  ·generalize (ps.map λp=>D.tup [.str p.1,wR p.2])=R at *;generalize (ps.map λp=>D.str p.1)=R1,D.kt (ps.map λp=>wR p.2)=R2 at *;show _=U R;have e:D.lst ((mQ w0 ps).map D.str)=dh (mQ w0 ps):=rfl;rw[e];generalize dh (mQ w0 ps)=K' at *;clear hl hi e;walk_at "mid"
  ·obtain⟨w,s⟩:=p;cases s with
   |none=>rfl
   |some q=>rfl
 generalize dh ((ps.filter λp=>p.2.isNone).map (·.1))=R,dh (mQ w0 ps)=K' at *;unfold gD;generalize mN=Q at *;clear hl sl zf hk;walk_at "mid"
end
variable {ps:List (Str×Dj)}{tbl:D}
section
variable {n:Int}{r:List Str}
theorem Yt {d:D}:jR [d,dh ("goings"::r)]=U (.bl Â):=by have x0:eG (dh ("goings"::r)) (.int 0)=U (.str "goings"):=C3;have e1:iI Ã (.str "goings") (.str "goings")=U (.bl Â):=(xt (zw _)<|zw _).trans (by simp);generalize dh ("goings"::r)=K' at *;unfold jR;walk_at "mid"
structure Wd (w0:Str)(g p:Bool):Prop where
 ok:dD.strOk w0=Â
 ng:¬w0 = "goings"
 np:¬w0 = "plan"
 pl:ñ Ã (.str w0) yh=U (.bl p)
 fo:(ym.lookup w0).isSome=g
theorem Wd.eg {g p:Bool}(h:Wd w0 g p)(neg:Bool):iI neg (.str w0) (.str "goings")=U (.bl neg):=by rw[xt h.ok<|zw _,decide_eq_false h.ng];cases neg<;>rfl
theorem Wd.ep {g p:Bool}(h:Wd w0 g p):iI Ã (.str w0) (.str "plan")=U (.bl Ã):=by rw[xt h.ok<|zw _,decide_eq_false h.np];rfl
theorem Zi (hw:Wd w0 Ã Ã)(hf:gH [dh (w0::r)]=U (.bl Â)):jR [dk (f7 (mo.map .str) as) tbl pt n,dh (w0::r)]=U (.bl Â):=by
 have x0:eG (dh (w0::r)) (.int 0)=U (.str w0):=C3;have eq1:=hw.eg Ã;have eq2:=hw.ep;have eq3:=hw.pl;have k1:rL Â ym (.str w0)=U (.bl Â):=by show U (D.bl<|!(ym.lookup w0).isSome)=_;rw[hw.fo];rfl
 have f1:dH [5,6] "net" (dk (f7 (mo.map .str) as) tbl pt n)=U (f7 (mo.map .str) as):=rfl;have f2:qM Ã (f7 (mo.map .str) as) .non=U (.bl Ã):=rfl;unfold jR;generalize f7 (mo.map .str) as=n1 at *;generalize dk n1 tbl pt n=d1,dh (w0::r)=K',yh=WP,rL Â ym=KI at *;clear hw;walk_at "mie"
theorem ZU {p:Bool}(hw:Wd w0 Â p)(ht:p=Â->qM Ã tbl .non=U (.bl Ã))(hf:mJ [dh<|mQ w0 ps]=U (.bl Â))(ha:ñ Â (.str w0) yn=U (.bl Â)) :
  jR [dk (f7 (mo.map .str) as) tbl pt n,dh<|mQ w0 ps]=U (.bl Â):=by
 have x0:eG (dh<|mQ w0 ps) (.int 0)=U (.str w0):=C3;have eq1:=hw.eg Ã;have eq2:=hw.ep;have eq3:=hw.pl;have k1:rL Â ym (.str w0)=U (.bl Ã):=by show U (D.bl<|!(ym.lookup w0).isSome)=_;rw[hw.fo];rfl
 have f1:dH [5,6] "net" (dk (f7 (mo.map .str) as) tbl pt n)=U (f7 (mo.map .str) as):=rfl;have f4:dH [6] "table" (dk (f7 (mo.map .str) as) tbl pt n)=U tbl:=rfl;have f2:qM Ã (f7 (mo.map .str) as) .non=U (.bl Ã):=rfl;unfold jR;generalize f7 (mo.map .str) as=n1 at *;generalize dk n1 tbl pt n=d1,dh (mQ w0 ps)=K',yh=WP,yn=WA,rL Â ym=KI at *;clear hw;cases p
 ·clear ht f4;walk_at "mie"
 ·have ht:=ht rfl;walk_at "mie"
theorem ZV {b t0 t1:Nat}{x y:Str}(h0:b<=1000000000000)(h1:t0<=1000000000000)(h2:t1<=1000000000000) :
  jR [dk (f7 [.str x,.str y] as) tbl pt n,dh ["plan",eA b,eA t0,eA t1]]=U (.bl Â):=by
 have nn:=Pl (ws:=[eA b,eA t0,eA t1]) (by simp) λw hw=>by simp only[cP,dm,or_false]at hw;rcases hw with rfl|rfl|rfl<;>exact IG (by lia)
 have sl:gP (dh ["plan",eA b,eA t0,eA t1]) (U 1) G=U (dh [eA b,eA t0,eA t1]):=by show U (D.lst<|ã _ (U ((1:Nat):Int)) G)=_;rw[wt];rfl
 have ln:fV [dh ["plan",eA b,eA t0,eA t1]]=U (.int 4):=rfl;obtain⟨L',hM,mx⟩:∃L':Int,L'<=1000000000000/\tY [.lst<|([b,t0,t1]:List Nat).map λ(x:Nat)=>D.int x]=U (.int L'):=by refine⟨max (max (b:Int) t0) t1,by lia,?_⟩;show U (D.int _)=_;congr 2
 have q:eN tY (C jE Å) [U<|dh ["plan",eA b,eA t0,eA t1],U<|.int 2]=U (.int L'):=by
  have:jE [U<|dh ["plan",eA b,eA t0,eA t1],U<|.int 2]=U (.lst<|([b,t0,t1]:List Nat).map λ(x:Nat)=>D.int x):=by
   refine yr (λx:Nat=>D.str<|eA x) (λx=>.int x) [b,t0,t1] ?_ (by simp) λx hx=>⟨_,rfl,?_⟩
   ·replace sl:gP _ _ _=U (.lst<|([b,t0,t1]:List Nat).map λ(x:Nat)=>D.str<|eA x):=sl;generalize (([b,t0,t1]:List Nat).map λ(x:Nat)=>D.str<|eA x)=L2,dh ["plan",eA b,eA t0,eA t1]=K' at *;clear nn ln mx hM h0 h1 h2;walk_at "mid"
   ·have:=qk (n:=x) (by
     simp only[cP,dm,or_false]at hx
     lia)
    clear hx nn sl mx;walk_at "mid"
  unfold eN C;rw[this];exact mx
 have x0:eG (dh ["plan",eA b,eA t0,eA t1]) (.int 0)=U (.str "plan"):=C3;have pf:kD [dh ["plan",eA b,eA t0,eA t1],.int 2]=U (.bl Â):=by unfold kD;generalize dh ["plan",eA b,eA t0,eA t1]=K',dh [eA b,eA t0,eA t1]=L2,eN tY (C jE Å)=Q at *;clear mx x0 h0 h1 h2;walk_at "mie"
 have f1:dH [5,6] "net" (dk (f7 [.str x,.str y] as) tbl pt n)=U (f7 [.str x,.str y] as):=rfl;have f3:dH [4] "names" (f7 [.str x,.str y] as)=U (.lst [.str x,.str y]):=rfl;have f2:qM Ã (f7 [.str x,.str y] as) .non=U (.bl Ã):=rfl;have l2:fV [.lst [.str x,.str y]]=U (.int 2):=rfl;have e1:iI Ã (.str "plan") (.str "goings")=U (.bl Ã):=(xt (zw _)<|zw _).trans (by rw[decide_eq_false<|by decide +kernel];rfl);have L:iI Ã (.str "plan") (.str "plan")=U (.bl Â):=(xt (zw _)<|zw _).trans (by simp);have e3:ñ Ã (.str "plan") yh=U (.bl Ã):=rfl;unfold jR;generalize f7 [.str x,.str y] as=n1 at *;generalize dk n1 tbl pt n=d1,dh ["plan",eA b,eA t0,eA t1]=K',yh=WP,rL Â ym=KI at *;clear h0 h1 h2 nn sl ln mx hM q;walk_at "mie"
end
variable {AE AM AO sI:D}{mf:List D->Option D}{Y:L3.Env}
section
variable {n:Int}{wr:List Str}
theorem Jz (hf:∀w∈w0::wr,oz 32 w)(hl:∀w∈w0::wr,w.length<=20)(hz:wr.length<=1000)(hk:dD.strOk w0=Â)(ok:jR [dk nt tbl pt n,dh (w0::wr)]=U (.bl Â))
  (told:w0 = "goings"\/∃(tl mo:List Str) (as:List Ab),gD [dh (w0::wr)]=U (dh tl)/\(∀x∈tl,x∈mo)/\nt=f7 (mo.map .str) as) (hd:iB.lookup w0=U mf) (hm:mf [dk nt tbl pt n,dh (w0::wr)]=U (.tup [AE,dk AM sI AO n])) :
  dN [dk nt tbl pt n,.str<|Str.join (fW 32) (w0::wr)]=U (.tup [AE,dk AM sI AO<|n+1]):=by
 have sp:nL (.str<|Str.join (fW 32) (w0::wr)) (.str " ")=U (dh (w0::wr)):=by rw[ug];exact Q3 (b:=20) (by simp) hf hl (by simp only[cX];lia)
 have i1:tW "str" (.str<|Str.join (fW 32) (w0::wr))=U (.bl Â):=rfl;have x0:eG (dh (w0::wr)) (.int 0)=U (.str w0):=C3;have ch:(Ö (tb<|L (iI Â) (L eG (M 2)<|eC<|.int 0)<|eC<|.str "goings") (ä<|cl gI<|C (cl gD<|C (M 2) Å)<|C (e1 (dH [4] "names")<|e1 (dH [5,6] "net")<|M 0) Å) Ë) [U<|dk nt tbl pt n,U<|.str<|Str.join (fW 32) (w0::wr),U<|dh (w0::wr),G]=U (.nx [U<|dk nt tbl pt n,U<|.str<|Str.join (fW 32) (w0::wr),U<|dh (w0::wr),G]):=by
  have eg:=xt (neg:=true) hk<|zw "goings";by_cases hg:w0 = "goings"
  ·rw[decide_eq_true hg]at eg;generalize dh (w0::wr)=K',Str.join (fW 32) (w0::wr)=U',dk nt tbl pt n=d1 at *;clear hf hl hz told hd hm ok hk hg;walk_at "mid"
  ·rw[decide_eq_false hg]at eg;obtain⟨tl,mo,as,h1,h2,h3⟩:=told.resolve_left hg;have rf:=zqz h2;have f1:dH [5,6] "net" (dk nt tbl pt n)=U nt:=rfl;have f2:dH [4] "names" nt=U (dh mo):=by rw[h3];rfl
   generalize dh (w0::wr)=K',Str.join (fW 32) (w0::wr)=U',dh mo=N,dh tl=TL,dk nt tbl pt n=d1 at *;clear hf hl hz told hd hm ok hk hg h2 h3;walk_at "mid"
 have dp:ê 3 (sD 0 (L eG (M 2)<|eC<|.int 0) (C (M 2) Å) iB) [U<|dk nt tbl pt n,U<|.str<|Str.join (fW 32) (w0::wr),U<|dh (w0::wr),G]=U (.nx [U<|dk AM sI AO n,U<|.str<|Str.join (fW 32) (w0::wr),U<|dh (w0::wr),U AE]):=by
  have cf:sD 0 (L eG (M 2)<|eC<|.int 0) (C (M 2) Å) iB [U<|dk nt tbl pt n,U<|.str<|Str.join (fW 32) (w0::wr),U<|dh (w0::wr),G]=U (AE,[U<|dk AM sI AO n,U<|.str<|Str.join (fW 32) (w0::wr),U<|dh (w0::wr),G]):=by have k1:L eG (M 2) (eC<|.int 0) [U<|dk nt tbl pt n,U<|.str<|Str.join (fW 32) (w0::wr),U<|dh (w0::wr),G]=U (.str w0):=x0;unfold sD;rw[k1];show(iB.lookup w0).bind _=_;rw[hd];show(if nI (dk nt tbl pt n)=Â then(mf [dk nt tbl pt n,dh (w0::wr)]).bind _ else G)=_;rw[hm];rfl
  unfold ê;rw[cf];rfl
 have pa:=ϲ (nt:=AM) (tl:=sI) (pt:=AO) (n:=n) (r:=[U<|.str<|Str.join (fW 32) (w0::wr),U<|dh (w0::wr),U AE]);unfold dN;generalize (Ö (tb<|L (iI Â) (L eG (M 2)<|eC<|.int 0)<|eC<|.str "goings") (ä<|cl gI<|C (cl gD<|C (M 2) Å)<|C (e1 (dH [4] "names")<|e1 (dH [5,6] "net")<|M 0) Å) Ë)=S1,ê 3 (sD 0 (L eG (M 2)<|eC<|.int 0) (C (M 2) Å) iB)=S2,Ao 0 [6] "answered" (eC<|.int 1)=S3,dh (w0::wr)=K',Str.join (fW 32) (w0::wr)=U',dk nt tbl pt n=d1,dk AM sI AO n=d2,dk AM sI AO (n+1)=d3 at *;clear hf hl hz told hd hm hk x0;walk_at "mid"
theorem Cd {i:Nat}{row d:D}(h0:M i Y=U (dk nt tbl pt n))(h1:gs Y=U [row])(h2:dN [dk nt tbl pt n,row]=U (.tup [AE,d])):k7 i 6 "say" gs dN Y=U (AE,Y.set i<|U d):=by unfold k7;rw[h0,h1];show(if 6=6/\(["net","table","puts","answered"]:List Str).contains "say"=Ã then(dN [dk nt tbl pt n,row]).bind _ else G)=_;rw[if_pos ⟨rfl,by decide +kernel⟩,h2];rfl
end
def GB (x:Option D)(b:Bool):Bool:=match x with
 |some (.bl c)=>c==b
 |_=>Ã
theorem wc {x:Option D}{b:Bool}(h:GB x b=Â):x=U (.bl b):=by
 unfold GB at h;split at h
 ·rw[eq_of_beq h]
 ·cases h
theorem Ţ:∀w∈(["ride","wait","back","line"]:List Str),Wd w Ã Ã:=by intro w hw;refine⟨?_,?_,?_,wc ?_,?_⟩<;>revert w<;>decide +kernel
section
variable {n:Int}{bs:List Ab}
theorem Yu (hn:iZ mo)(ok:qJ mo []):dN [dk nt tbl pt n,.str<|TV mo]=U (.tup [.str "ok",dk (f7 (mo.map .str) []) .non (.cel [])<|n+1]) :=
 Jz (mf:=kn) (λw hw=>(RN hn hw).1 32<|by decide) (λw hw=>by have:=(RN hn hw).2.1;lia) (by have:=hn.le;lia) (zw _) Yt (.inl rfl) rfl (Zg ok)
theorem PH {wr:List Str}(h0:w0∈(["wait","back"]:List Str))(hr:Bn mo (w0::wr) bs)(ok:qJ mo<|as++bs):dN [dk (f7 (mo.map .str) as) tbl pt n,.str<|Str.join (fW 32) (w0::wr)]=U (.tup [.str "ok",dk (f7 (mo.map .str)<|as++bs) .non pt<|n+1]):=by
 have hw:=Ţ w0 (by simp only[cP,dm,or_false]at h0 ⊢;rcases h0 with rfl|rfl<;>simp);have hl:=hr.len;rw[cX]at hl;obtain⟨tl,t1,t2⟩:=hr.told;have ld:iB.lookup w0=U iz:=by simp only[cP,dm,or_false]at h0;rcases h0 with rfl|rfl<;>rfl
 refine Jz (mf:=iz) hr.f32 (λw hw=>by have:=hr.wl w hw;lia) (by lia) hw.ok (Zi hw hr.form) (.inr ⟨tl,mo,as,?_,t2,rfl⟩) ld<|Zh ok hr;have x0:eG (dh (w0::wr)) (.int 0)=U (.str w0):=C3;have k1:rL Ã ym (.str w0)=U (.bl Ã):=by show U (D.bl<|(ym.lookup w0).isSome)=_;rw[hw.fo]
 have ep:=hw.ep;unfold gD;generalize dh (w0::wr)=K',dh tl=TL,rL Ã ym=KI at *;clear hw hr h0 ok t2 ld hl;walk_at "mid"
theorem ET {j:Nat}(h:j<1000000000000000):oz 32 (eA j)/\(eA j).length<=20:=⟨qj<|by decide,by have:=yx h;lia⟩
theorem Mn {p:Bool}(hw:Wd w0 Â p)(ht:p=Â->qM Ã tbl .non=U (.bl Ã))(h0:oz 32 w0/\w0.length<=20)(hp:∀p∈ps,Ă p/\oz 32 p.1/\p.1.length<=20)(hl:ps.length<=100)(hk:En ym (.str w0)=U (.kt<|ps.map λp=>wR p.2))
  (ha:ñ Â (.str w0) yn=U (.bl Â))
  (told:∀p∈ps,p.2=G->p.1∈mo) (hd:iB.lookup w0=U mf) (hm:mf [dk (f7 (mo.map .str) as) tbl pt n,dh<|mQ w0 ps]=U (.tup [AE,dk AM sI AO n])) :
  dN [dk (f7 (mo.map .str) as) tbl pt n,.str<|Str.join (fW 32)<|mQ w0 ps]=U (.tup [AE,dk AM sI AO<|n+1]):=by
 have mem:∀w∈mQ w0 ps,oz 32 w/\w.length<=20:=λw hw=>by
  rcases cP.mp hw with rfl|hw
  ·exact h0
  ·obtain⟨q,hq,rfl⟩:=dP.mp hw;exact(hp q hq).2
 refine Jz (mf:=mf) (λw hw=>(mem w hw).1) (λw hw=>(mem w hw).2) (by rw[dr];lia) hw.ok (ZU hw ht (Ť hk hl λq hq=>(hp q hq).1) ha) (.inr ⟨_,mo,as,ţ hk ?_ hl,λx hx=>?_,rfl⟩) hd hm
 ·show U (D.bl<|(ym.lookup w0).isSome)=_;rw[hw.fo]
 ·obtain⟨q,hq,rfl⟩:=dP.mp hx;have:=tR.mp hq;exact told q this.1 (by simpa using this.2)
theorem Jb {j:Nat}{lo hi:Int}{p:Bool}(hw:Wd w0 Â p)(ht:p=Â->qM Ã tbl .non=U (.bl Ã))(h0:oz 32 w0/\w0.length<=20)(hj:j<1000000000000000)(h1:lo<=(j:Int))(h2:(j:Int)<=hi)(hk:En ym (.str w0)=U (.kt [.kt [.int lo,.int hi]]))
  (ha:ñ Â (.str w0) yn=U (.bl Â)) (hd:iB.lookup w0=U mf) (hm:mf [dk (f7 (mo.map .str) as) tbl pt n,dh [w0,eA j]]=U (.tup [AE,dk AM sI AO n])) :
  dN [dk (f7 (mo.map .str) as) tbl pt n,.str<|Str.join (fW 32) [w0,eA j]]=U (.tup [AE,dk AM sI AO<|n+1]):=by
 refine Mn (ps:=[(eA j,U (lo,hi))]) hw ht h0 (λp hp=>?_) (by simp) hk ha (λp hp=>?_) hd hm
 ·rw[ef]at hp;subst hp;exact⟨λl h e=>by cases e;exact⟨j,rfl,hj,h1,h2⟩,ET hj⟩
 ·rw[ef]at hp;subst hp;exact nofun
theorem ZW {b t0 t1:Nat}{x y:Str}(h0:b<=1000000000000)(h1:t0<=1000000000000)(h2:t1<=1000000000000)(hm:kQ [dk (f7 [.str x,.str y] as) tbl pt n,dh ["plan",eA b,eA t0,eA t1]]=U (.tup [AE,dk AM sI AO n])) :
  dN [dk (f7 [.str x,.str y] as) tbl pt n,.str<|Str.join (fW 32) ["plan",eA b,eA t0,eA t1]]=U (.tup [AE,dk AM sI AO<|n+1]):=by
 have pl:oz 32 ("plan":Str)/\("plan":Str).length<=20:=by constructor<;>(try unfold oz)<;>decide +kernel
 have mem:∀w∈(["plan",eA b,eA t0,eA t1]:List Str),oz 32 w/\w.length<=20:=λw hw=>by
  simp only[cP,dm,or_false]at hw;rcases hw with rfl|rfl|rfl|rfl
  ·exact pl
  ·exact ET (j:=b) (by lia)
  ·exact ET (j:=t0) (by lia)
  ·exact ET (j:=t1) (by lia)
 refine Jz (mf:=kQ) (λw hw=>(mem w hw).1) (λw hw=>(mem w hw).2) (by simp) (zw _) (ZV h0 h1 h2) (.inr ⟨[],[x,y],as,?_,nofun,rfl⟩) rfl hm;have x0:eG (dh ["plan",eA b,eA t0,eA t1]) (.int 0)=U (.str "plan"):=C3;have k1:rL Ã ym (.str "plan")=U (.bl Ã):=rfl;have L:iI Ã (.str "plan") (.str "plan")=U (.bl Â):=(xt (zw _)<|zw _).trans (by simp);show _=U (D.lst []);unfold gD;generalize dh ["plan",eA b,eA t0,eA t1]=K',rL Ã ym=KI at *;clear pl mem hm h0 h1 h2;walk_at "mid"
end
variable {a mv:Nat}
theorem HF (ns:List Int)(i:Int)(hi:0<=i):∃c,eS [.lst<|ns.map .int,.int i]=dA c:=by
 obtain⟨k,rfl⟩:∃k:Nat,i=k:=⟨i.toNat,by lia⟩;unfold eS;by_cases h:k<ns.length
 ·refine⟨ns[k],?_⟩;have:eG (.lst<|ns.map .int) (.int k)=U (.int ns[k]):=ME D.int (.inl rfl) (by simp[h]);walk_at "mid"
 ·refine⟨0,?_⟩;walk_at "mid"
theorem Jc (c:Int){k:Int}(h0:0<=k)(h1:k<=1000000):∃r:Nat,fI [.int c,.int k]=dA r/\r<2147483648:=by
 have m0:jY (.int 31) (.int k)=dA (31*k):=jf (by decide) (by decide);have s0:AQ (.int c) (.int<|64+31*k)=dA (c/2 ^ (64+31*k).toNat):=č (by lia);have fin:∀z:Int,∀m:Int,0<m->m<=2147483648->∃r:Nat,(U (D.int<|z%m):Option D)=dA r/\r<2147483648:=λz m hm Ai=>by have a1:=Ce z (by lia:m≠0);have a2:=AU z hm;exact⟨(z%m).toNat,by rw[qZ a1],by lia⟩
 generalize hn:(c+7919*k+1)*48271%2147483647=n1;have b1:0<=n1/\n1<2147483647:=by lia
 have m1:jY (.int 7919) (.int k)=dA (7919*k):=jf (by decide) (by decide);have m2:jY (.int<|c+7919*k+1) (.int 48271)=dA ((c+7919*k+1)*48271):=qy (by decide) (by decide);have m3:jY (.int n1) (.int<|n1/1009+69621)=dA (n1*(n1/1009+69621)):=jf (by lia) (by lia);generalize Dv:n1*(n1/1009+69621)%2147483647=n2;have b2:0<=n2/\n2<2147483647:=by lia
 have m4:jY (.int n2) (.int<|n2/1013+16807)=dA (n2*(n2/1013+16807)):=jf (by lia) (by lia);unfold fI;by_cases hr:(1237940039285380274899124224:Int)<=c
 ·by_cases hs:c/2 ^ (64+31*k).toNat > 0
  ·obtain⟨r,e1,L⟩:=fin (c/2 ^ (64+31*k).toNat) 2147483648 (by decide) (by decide);refine⟨r,?_,L⟩;rw[←e1];generalize c/2 ^ (64+31*k).toNat=q at s0 hs;clear e1 L fin hn Dv b1 b2 h0 h1;walk_at "mid"
  ·obtain⟨r,e1,L⟩:=fin (n2*(n2/1013+16807)) 2147483647 (by decide) (by decide);refine⟨r,?_,L⟩;rw[←e1];generalize c/2 ^ (64+31*k).toNat=q at s0 hs;clear e1 L fin b1 b2 h0 h1;walk_at "mid"
 ·obtain⟨r,e1,L⟩:=fin (n2*(n2/1013+16807)) 2147483647 (by decide) (by decide);refine⟨r,?_,L⟩;rw[←e1];clear e1 L fin b1 b2 h0 h1 s0;walk_at "mid"
def UC (c k:Int):Nat:=match fI [.int c,.int k]with
 |some (.int r)=>r.toNat
 |_=>0
noncomputable def yV (z:Int):Nat:=97+(z%26).toNat
noncomputable def uR (z:Int):Nat:=if(z%36).toNat<26 then 97+(z%36).toNat else 22+(z%36).toNat
noncomputable def oZ (c:Int)(a k j:Nat):Int:=c/(64+37*(j:Int))+(if j=a then(k:Int)else 0)
def E6 (c:Int)(a k j:Nat):Nat:=if j=0 then yV (oZ c a k j)else uR (oZ c a k j)
def DC (c:Int)(a k n:Nat):List Nat:=(eF n).map<|E6 c a k
def uM (c:Int)(a k n:Nat):Str:=⟨(DC c a k n).toArray⟩
theorem uv (c:Int)(a k n:Nat):(uM c a k n).cps.toList=DC c a k n:=rfl
def Io (x:Option D)(c:Nat):Bool:=match x with
 |some (.str a)=>decide<|a=fW c
 |_=>Ã
theorem RP {x:Option D}{c:Nat}(h:Io x c=Â):x=U (.str<|fW c):=by
 unfold Io at h;split at h
 ·rw[of_decide_eq_true h]
 ·cases h
theorem š:∀l,l<26->Io (eG (.str "abcdefghijklmnopqrstuvwxyz")<|.int ((l:Nat):Int)) (97+l)=Â:=by decide +kernel
theorem Š:∀l,l<36->Io (eG (.str<|"abcdefghijklmnopqrstuvwxyz" ++ "0123456789")<|.int ((l:Nat):Int)) (if l<26 then 97+l else 22+l)=Â:=by decide +kernel
theorem KY (z:Int):eG (.str "abcdefghijklmnopqrstuvwxyz") (.int<|z%26)=U (.str<|fW<|yV z):=by have:=RP (š (z%26).toNat<|by lia);rwa[qZ<|by lia]at this
theorem KZ (z:Int):eG (.str<|"abcdefghijklmnopqrstuvwxyz" ++ "0123456789") (.int<|z%36)=U (.str<|fW<|uR z):=by have:=RP (Š (z%36).toNat<|by lia);rwa[qZ<|by lia]at this
theorem ZX (c:Int)(a k n:Nat):uM c a k (n+1)=uM c a k n++fW (E6 c a k n):=by apply vc;rw[xq,uv,uv];unfold DC;rw[mh,kM];rfl
theorem ϱ (c:Int)(a k j:Nat)(hj:j<8)(y1 y4 y6 y10:Option D):∃(wU:Option D),
  lI [dA c,y1,U<|.str "abcdefghijklmnopqrstuvwxyz",U<|.str<|"abcdefghijklmnopqrstuvwxyz" ++ "0123456789",y4,dA a,y6,dA k,U<|.str<|uM c a k j,dA j,y10] =
   U (.nx [dA c,y1,U<|.str "abcdefghijklmnopqrstuvwxyz",U<|.str<|"abcdefghijklmnopqrstuvwxyz" ++ "0123456789",y4,dA a,y6,dA k,U<|.str<|uM c a k<|j+1,dA j,wU]):=by
 have i1:AK [.bl Â]=dA 1:=rfl;have i0:AK [.bl Ã]=dA 0:=rfl;have m1:jY (.int 37) (.int j)=dA (37*j):=jf (by decide) (by decide);have f1:iD (.int c) (.int<|64+37*j)=dA (c/(64+37*(j:Int))):=je (by lia) (by lia);have ev:(L dL (L iD (M 0)<|L dL (eC<|.int 64)<|L jY (eC<|.int 37)<|M 9)<|L jY (M 7)<|eN AK<|C (L (iI Ã) (M 9)<|M 5) Å) [dA c,y1,U<|.str "abcdefghijklmnopqrstuvwxyz",U<|.str<|"abcdefghijklmnopqrstuvwxyz" ++ "0123456789",y4,dA a,y6,dA k,U<|.str<|uM c a k j,dA j,y10]=dA (oZ c a k j):=by
  unfold oZ;generalize ("abcdefghijklmnopqrstuvwxyz" ++ "0123456789":Str)=B,("abcdefghijklmnopqrstuvwxyz":Str)=A,uM c a k j=w at *;by_cases hb:j=a
  ·have m2:jY (.int k) (.int 1)=dA (k:Int):=(qy (by decide)<|by decide).trans (by rw[Int.mul_one]);rw[if_pos hb];subst hb;generalize c/(64+37*(j:Int))=KK at *;clear hj i0;walk_at "mid"
  ·have m2:jY (.int k) (.int 0)=dA 0:=(qy (by decide)<|by decide).trans (by rw[Int.mul_zero]);rw[if_neg hb];have hb:¬(j:Int)=a:=by lia
   generalize c/(64+37*(j:Int))=KK at *;clear hj i1;walk_at "mid"
 clear f1 m1 i0 i1;have x1:=KY<|oZ c a k j;have x2:=KZ<|oZ c a k j;have es:=ZX c a k j;have lw:(uM c a k j).length=j:=by rw[←wx,uv];unfold DC;simp
 refine⟨U<|.int<|oZ c a k j,?_⟩;have g1:iA (.int<|oZ c a k j) (.int 26)=dA (oZ c a k j%26):=ur (by decide);have g2:iA (.int<|oZ c a k j) (.int 36)=dA (oZ c a k j%36):=ur (by decide);have ad:dL (.str<|uM c a k j) (.str<|fW<|uR<|oZ c a k j)=U (.str<|uM c a k j++fW (uR<|oZ c a k j)):=LY (by rw[Lo];lia);unfold lI;generalize (L dL (L iD (M 0)<|L dL (eC<|.int 64)<|L jY (eC<|.int 37)<|M 9)<|L jY (M 7)<|eN AK<|C (L (iI Ã) (M 9)<|M 5) Å)=EV at *;by_cases h0:j=0
 ·have e0:uM c a k (j+1)=fW (yV<|oZ c a k j):=by rw[es];unfold E6;rw[if_pos h0,h0];apply vc;rw[xq];rfl
  rw[e0];clear es lw e0 hj g2 x2;generalize ("abcdefghijklmnopqrstuvwxyz" ++ "0123456789":Str)=B,("abcdefghijklmnopqrstuvwxyz":Str)=A,oZ c a k j=W',uM c a k j=w at *;subst h0;have z0:((0:Nat):Int)=0:=rfl;rw[z0]at ev ⊢;walk_at "mid"
 ·have e0:E6 c a k j=uR (oZ c a k j):=by unfold E6;rw[if_neg h0]
  rw[es,e0];clear es lw e0 hj g1 x1;have h0:¬(j:Int)=0:=by lia
  generalize ("abcdefghijklmnopqrstuvwxyz" ++ "0123456789":Str)=B,("abcdefghijklmnopqrstuvwxyz":Str)=A,oZ c a k j=W' at *;generalize uM c a k j++fW (uR W')=w2 at *;generalize uM c a k j=w at *;walk_at "mid"
def oW (c:Int)(a sz mv:Nat):List Str:=(eF mv).map λk=>uM c a k sz
theorem ϰ (c:Int){sz:Nat}(hm:mv<=8)(hs:sz<=8):∃y7 y8 y9 y10:Option D,mn (gV 7) kd (qG 0 mv) [dA c,dA mv,U<|.str "abcdefghijklmnopqrstuvwxyz",U<|.str<|"abcdefghijklmnopqrstuvwxyz" ++ "0123456789",dA sz,dA a,U<|.lst [],G,G,G,G]=U (.nx [dA c,dA mv,U<|.str "abcdefghijklmnopqrstuvwxyz",U<|.str<|"abcdefghijklmnopqrstuvwxyz" ++ "0123456789",dA sz,dA a,U<|dh<|oW c a sz mv,y7,y8,y9,y10]):=by
 have r2:=jg (j:=(sz:Int)) (by lia) (by lia);rw[fK]at r2;obtain⟨ρ',h1,y7,y8,y9,y10,rfl⟩:=uq (g:=gV 7) (b:=kd) (lo:=0) (n:=mv) (Y:=[dA c,dA mv,U<|.str "abcdefghijklmnopqrstuvwxyz",U<|.str<|"abcdefghijklmnopqrstuvwxyz" ++ "0123456789",dA sz,dA a,U<|.lst [],G,G,G,G])
  (λn Y=>∃(y7 y8 y9 y10:Option D),Y=[dA c,dA mv,U<|.str "abcdefghijklmnopqrstuvwxyz",U<|.str<|"abcdefghijklmnopqrstuvwxyz" ++ "0123456789",dA sz,dA a,U<|dh<|oW c a sz n,y7,y8,y9,y10]) ⟨_,_,_,_,rfl⟩ (by
   rintro k Y hk ⟨y7,y8,y9,y10,rfl⟩;obtain⟨ρ2,h2,z9,wU,rfl⟩:=uq (g:=gV 9) (b:=lI) (lo:=0) (n:=sz) (Y:=[dA c,dA mv,U<|.str "abcdefghijklmnopqrstuvwxyz",U<|.str<|"abcdefghijklmnopqrstuvwxyz" ++ "0123456789",dA sz,dA a,U<|dh<|oW c a sz k,dA k,U<|.str "",y9,y10])
    (λn Y=>∃(z9 wU:Option D),Y=[dA c,dA mv,U<|.str "abcdefghijklmnopqrstuvwxyz",U<|.str<|"abcdefghijklmnopqrstuvwxyz" ++ "0123456789",dA sz,dA a,U<|dh<|oW c a sz k,dA k,U<|.str<|uM c a k n,z9,wU]) ⟨_,_,rfl⟩ (by rintro j Y hj ⟨z9,wU,rfl⟩;obtain⟨z,e⟩:=ϱ c a k j (by lia) (dA mv) (dA sz) (U<|dh<|oW c a sz k) wU;refine⟨_,_,rfl,.inl ?_,dA j,z,rfl⟩;rw[sM];exact e)
   refine⟨_,_,rfl,.inl ?_,dA k,U<|.str<|uM c a k sz,z9,wU,rfl⟩;rw[sM];have ep:dh (oW c a sz<|k+1)=.lst ((oW c a sz k).map D.str++[.str<|uM c a k sz]):=by unfold dh oW;rw[mh,kM,kM];rfl
   have es:dh (oW c a sz k)=.lst ((oW c a sz k).map D.str):=rfl;have lW:((oW c a sz k).map D.str).length<16777216:=by unfold oW;rw[dr,dr,lr];lia
   rw[ep];rw[es]at h2 ⊢;generalize (oW c a sz k).map D.str=L1,("abcdefghijklmnopqrstuvwxyz" ++ "0123456789":Str)=B,("abcdefghijklmnopqrstuvwxyz":Str)=A,uM c a k sz=w,(sz:Int)=SZ,qG 0 sz=Z' at *;clear ep es hm hk hs;unfold kd;walk_at "mid")
 exact⟨y7,y8,y9,y10,h1⟩
theorem ϯ (z:Int):Er (yV z)=Â:=by unfold Er yV;exact decide_eq_true (by lia)
theorem Ϯ (z:Int):(Er (uR z) || JR (uR z))=Â:=by
 unfold uR Er JR;split
 ·rw[decide_eq_true<|by lia];rfl
 ·rw[jC];exact .inr (decide_eq_true<|by lia)
theorem ş (c:Int)(a k n:Nat)(h1:1<=n)(h2:n<=8):BG (uM c a k n)=Â:=by obtain⟨m,rfl⟩:∃m,n=m+1:=⟨n-1,by lia⟩;unfold BG;rw[uv];unfold DC;rw[wX,dC];show(_&&Er (yV _)&&_)=Â;rw[ϯ,Bool.and_true,dE];refine⟨decide_eq_true<|by simp;lia,gL.mpr λx hx=>?_⟩;obtain⟨j,hj,rfl⟩:=dP.mp hx;obtain⟨i,_,rfl⟩:=dP.mp hj;exact Ϯ _
theorem ϭ {c:Int}{n k k':Nat}(ha:a<n)(hk:k<8)(A9:k'<8)(h:uM c a k n=uM c a k' n):k=k':=by
 have h:DC c a k n=DC c a k' n:=by rw[←uv,h,uv]
 unfold DC at h;have h:=congrArg (λl=>l[a]?) h;simp only[eU,zW ha,tF,Option.some.injEq]at h;unfold E6 yV uR oZ at h;rw[if_pos rfl,if_pos rfl]at h;generalize c/(64+37*(a:Int))=KK at h;split at h
 ·lia
 ·split at h<;>split at h<;>lia
theorem Ϭ (c:Int){sz:Nat}(ha:a<sz)(hs:sz<=8)(hm:mv<=8):iZ (oW c a sz mv):=by
 refine⟨?_,λx hx=>?_,by unfold oW;rw[dr,lr];lia⟩
 ·refine List.pairwise_map.mpr<|C7.imp_of_mem (λhi hj ne e=>ne ?_)<|List.nodup_range (n:=mv);rw[fM]at hi hj;exact ϭ ha (by lia) (by lia) e
 ·obtain⟨k,_,rfl⟩:=dP.mp hx;exact ş c a k sz (by lia) hs
theorem IJ (c:Nat)(a b:Str)(r:List Str):Str.join (fW c) (a::b::r)=(a++fW c)++Str.join (fW c) (b::r):=by apply vc;rw[join_list,xq,xq,et];rfl
theorem ϫ (c:Int)(hm:mv<=8):∃ns:List Str,m6 [.int c,.int mv]=U (dh ns)/\ns.length=mv/\iZ ns:=by
 obtain⟨sz,hsz,Eg,Ky⟩:∃s:Nat,1+c%8=(s:Int)/\1<=s/\s<=8:=⟨(1+c%8).toNat,by lia,by lia,by lia⟩;obtain⟨a,ha,has⟩:∃a:Nat,c/8%(sz:Int)=(a:Int)/\a<sz:=by have a1:=Ce (c/8) (show(sz:Int)≠0 by lia);have a2:=AU (c/8) (show(0:Int)<(sz:Int)by lia);exact⟨(c/8%(sz:Int)).toNat,by lia,by lia⟩
 have ad:dL (.str "abcdefghijklmnopqrstuvwxyz") (.str "0123456789")=U (.str<|"abcdefghijklmnopqrstuvwxyz" ++ "0123456789"):=LY (by decide +kernel);have md:iA (.int<|c/8) (.int sz)=dA (a:Int):=by rw[ur<|by lia,ha]
 have r1:=jg (j:=(mv:Int)) (by lia) (by lia);rw[fK]at r1;obtain⟨y7,y8,y9,y10,h1⟩:=ϰ c (a:=a) hm Ky;refine⟨oW c a sz mv,?_,by unfold oW;rw[dr,lr],Ϭ c has Ky hm⟩;unfold m6;generalize dh (oW c a sz mv)=L1,("abcdefghijklmnopqrstuvwxyz" ++ "0123456789":Str)=B,("abcdefghijklmnopqrstuvwxyz":Str)=A at *;clear Eg Ky has hm ha;generalize (sz:Int)=SZ,qG 0 mv=Z',kd=B2 at *;walk_at "mid"
noncomputable def A2 (o p:Nat):List Ab:=[⟨.wait,0,1,(o:Int),0⟩,⟨.back,1,0,(p:Int),1⟩]
abbrev N2 (x y:Str)(o p:Nat):D:=f7 [.str x,.str y]<|A2 o p
section
variable {x y:Str}{o p:Nat}
theorem Nb:ko 4 "most_behind" e9 (N2 x y o p) []=dA 1:=rfl
theorem K9:gY [.lst []]=U (.dT [] []):=by rfl
end
variable {K' R O:List D}{y1 y2:Option D}{ρ' ρ1:L3.Env}
theorem Mp {xs:List D}{n b:Nat}(hn:xs.length=n+1)(hb:b<=n):atI xs (-1-(b:Int))=xs[n-b]?:=by
 unfold atI;have:ó xs.length (-1-(b:Int))=U (n-b):=by unfold ó;rw[if_neg<|by lia,if_pos<|by lia];congr 1;lia
 rw[this];rfl
theorem Js {u v:D}:atI (K'++[u,v]) (-1)=U v/\atI (K'++[u,v]) (-2)=U u:=by
 have h1:=Mp (xs:=K'++[u,v]) (n:=K'.length+1) (b:=0) (by simp) (by lia);have h2:=Mp (xs:=K'++[u,v]) (n:=K'.length+1) (b:=1) (by simp) (by lia);constructor
 ·rw[show(-1:Int) = -1-((0:Nat):Int)by rfl,h1];simp
 ·rw[show(-2:Int) = -1-((1:Nat):Int)by rfl,h2];simp
theorem z0f {u v w:D}:vN (K'++[u,v]) (-1) w=U (K'++[u,w]):=by
 unfold vN;have:ó (K'++[u,v]).length (-1)=U (K'.length+1):=by unfold ó;simp;lia
 rw[this];simp
section
variable {x y:Str}{o p:Nat}
theorem Se:eG (.lst<|(A2 o p).map gw) (.int 0)=U (gw ⟨.wait,0,1,(o:Int),0⟩):=rfl
theorem Sf:eG (.lst<|(A2 o p).map gw) (.int 1)=U (gw ⟨.back,1,0,(p:Int),1⟩):=rfl
theorem GO:dH [4] "arrows" (N2 x y o p)=gE ((A2 o p).map gw):=rfl
theorem LG {u:D}{b:Int}(h:atI R (-2)=U (.lst [u,.int b])):gp [N2 x y o p,.lst R,.lst [.int 1],.non]=U (.int<|b+p):=by
 have a1:=Sf (o:=o) (p:=p);have f0:=GO (x:=x) (y:=y) (o:=o) (p:=p);have f1:dH [0,1,2,3] "behind" (gw ⟨.back,1,0,(p:Int),1⟩)=U (.int 1):=rfl;have f2:dH [0,1,2,3] "start" (gw ⟨.back,1,0,(p:Int),1⟩)=U (.int 1):=rfl;have f3:dH [0,1,2,3] "time" (gw ⟨.back,1,0,(p:Int),1⟩)=U (.int p):=rfl;have x1:eG (.lst R) (.int<|-2)=U (.lst [u,.int b]):=h;have x2:eG (.lst [u,.int b]) (.int 1)=U (.int b):=rfl;have l1:tP [.int b,.int p]=U (.int<|b+p):=rfl;have l2:pN [.non,.int<|b+p]=U (.int<|b+p):=rfl;generalize N2 x y o p=n,(A2 o p).map gw=A,gw ⟨.back,1,0,(p:Int),1⟩=a,D.lst [u,.int b]=r at *;clear h;have fo:mn (gV 5) eK [.int 1] [U n,U<|.lst R,U<|.lst [.int 1],U .non,U .non,G,G]=U (.nx [U n,U<|.lst R,U<|.lst [.int 1],U .non,U<|.int<|b+p,U<|.int 1,U a]):=by
  show((eK [U n,U<|.lst R,U<|.lst [.int 1],U .non,U .non,U<|.int 1,G]).bind _)=_;have:eK [U n,U<|.lst R,U<|.lst [.int 1],U .non,U .non,U<|.int 1,G]=U (.nx [U n,U<|.lst R,U<|.lst [.int 1],U .non,U<|.int<|b+p,U<|.int 1,U a]):=by unfold eK;walk_at "mid"
  rw[this];rfl
 unfold gp;clear l1 l2 x1 x2 f1 f2 f3 a1 f0;walk_at "mid"
theorem LH {u:D}{b:Int}(h:atI R (-1)=U (.lst [.int b,u])):gp [N2 x y o p,.lst R,.lst [.int 0],.non]=U (.int<|b+o):=by
 have a1:=Se (o:=o) (p:=p);have f0:=GO (x:=x) (y:=y) (o:=o) (p:=p);have f1:dH [0,1,2,3] "behind" (gw ⟨.wait,0,1,(o:Int),0⟩)=U (.int 0):=rfl;have f2:dH [0,1,2,3] "start" (gw ⟨.wait,0,1,(o:Int),0⟩)=U (.int 0):=rfl;have f3:dH [0,1,2,3] "time" (gw ⟨.wait,0,1,(o:Int),0⟩)=U (.int o):=rfl;have x1:eG (.lst R) (.int<|-1)=U (.lst [.int b,u]):=h;have x2:eG (.lst [.int b,u]) (.int 0)=U (.int b):=rfl;have l1:tP [.int b,.int o]=U (.int<|b+o):=rfl;have l2:pN [.non,.int<|b+o]=U (.int<|b+o):=rfl;generalize N2 x y o p=n,(A2 o p).map gw=A,gw ⟨.wait,0,1,(o:Int),0⟩=a,D.lst [.int b,u]=r at *;clear h;have fo:mn (gV 5) eK [.int 0] [U n,U<|.lst R,U<|.lst [.int 0],U .non,U .non,G,G]=U (.nx [U n,U<|.lst R,U<|.lst [.int 0],U .non,U<|.int<|b+o,U<|.int 0,U a]):=by
  show((eK [U n,U<|.lst R,U<|.lst [.int 0],U .non,U .non,U<|.int 0,G]).bind _)=_;have:eK [U n,U<|.lst R,U<|.lst [.int 0],U .non,U .non,U<|.int 0,G]=U (.nx [U n,U<|.lst R,U<|.lst [.int 0],U .non,U<|.int<|b+o,U<|.int 0,U a]):=by unfold eK;walk_at "mid"
  rw[this];rfl
 unfold gp;clear l1 l2 x1 x2 f1 f2 f3 a1 f0;walk_at "mid"
theorem Jd {i:Nat}{fl f:EF}{ds':List D}{u d:D}{z:Int}(h1:f Y=U d)(h2:M i Y=gE (K'++[u,.lst O]))(h3:fl Y=dA z)(h4:vN O z d=U ds') :
  uA i (e1 vX<|eC<|.int 1) fl f Y=U (.nx<|Y.set i<|gE<|K'++[u,.lst ds']):=by
 have e:ó (K'++[u,.lst O]).length (-1)=U (K'.length+1):=by unfold ó;simp;lia
 have g:(K'++[u,.lst O])[K'.length+1]?=gE O:=by simp
 have s:(K'++[u,.lst O]).set (K'.length+1) (.lst ds')=K'++[u,.lst ds']:=by simp
 unfold uA;rw[h1,h2,h3];show((ó _<|-1).bind λy'=>_)=_;rw[e];show(((K'++[u,.lst O])[K'.length+1]?).bind λr=>_)=_;rw[g];show((vN O z d).bind λds'=>_)=_;rw[h4,←s];rfl
theorem qo {f g:SF}{r:Option ï}(h1:f Y=U (.nx ρ'))(h2:g ρ'=r):Ç f g Y=r:=by unfold Ç;rw[h1];exact h2
theorem wn {g:D->L3.Env->Option L3.Env}{b:SF}{d:D}{ρ2:L3.Env}{r:Option ï}(h1:g d Y=U ρ1)(h2:b ρ1=U (.nx ρ2))(h3:mn g b O ρ2=r):mn g b (d::O) Y=r:=by unfold mn;rw[h1];show(b ρ1).bind _=_;rw[h2];exact h3
theorem JA {i:Nat}{f:EF}{d:D}(h1:M i Y=gE K')(h2:f Y=U d)(hL:K'.length<16777216):å i f Y=U (.nx<|Y.set i<|gE<|K'++[d]):=by unfold å;rw[h1,h2];exact if_pos hL
theorem zx {i:Nat}{f:EF}{d:D}(h:f Y=U d):È i f Y=U (.nx<|Y.set i<|U d):=by unfold È;rw[h];rfl
theorem v5 {g:D->L3.Env->Option L3.Env}{b:SF}(h:fi Y=U O):Ò fi g b Y=mn g b O Y:=by unfold Ò;rw[h];rfl
theorem zn {f g:SF}{k:ï->Option D}{r:Option D}(h1:f Y=U (.nx ρ'))(h2:(g ρ').bind k=r):(Ç f g Y).bind k=r:=by unfold Ç;rw[h1];exact h2
theorem Ş {a b j:Int}{y3 y9 y10:Option D}(hL:K'.length<=1000):∃z9 wU,gn [U<|N2 x y o p,y1,y2,y3,gE<|K'++[.lst [.int a,.int b]],U<|.dT [] [],U<|.lst [.lst [.int 1],.lst [.int 0]],U<|.lst [.int 0,.int 1],dA j,y9,y10] =
  U (.nx [U<|N2 x y o p,y1,y2,y3,gE<|K'++[.lst [.int a,.int b],.lst [.int<|b+p,.int<|b+p+o]],U<|.dT [] [],U<|.lst [.lst [.int 1],.lst [.int 0]],U<|.lst [.int 0,.int 1],dA j,z9,wU]):=by
 refine⟨U<|.int 1,U .non,?_⟩;unfold gn;have e:=JA (i:=4) (f:=(L wC (λY=>((C (eC .non) Å) Y).bind λO=>(gE O))<|eN fV<|C (e1 (dH [4] "names")<|M 0) Å)) (Y:=[U<|N2 x y o p,y1,y2,y3,gE<|K'++[.lst [.int a,.int b]],U<|.dT [] [],U<|.lst [.lst [.int 1],.lst [.int 0]],U<|.lst [.int 0,.int 1],dA j,y9,y10]) (K':=K'++[.lst [.int a,.int b]]) (d:=.lst [.non,.non]) rfl (by kernel_rfl) (by simp;lia);rw[et]at e;refine qo e ?_;show mn (gV 9) mF [.int 0,.int 1] _=_;refine wn (ρ1:=[U<|N2 x y o p,y1,y2,y3,gE<|K'++[.lst [.int a,.int b],.lst [.non,.non]],U<|.dT [] [],U<|.lst [.lst [.int 1],.lst [.int 0]],U<|.lst [.int 0,.int 1],dA j,dA 0,y10]) rfl (qo (zx (d:=.non) rfl)<|Jd (z:=0) (d:=.int<|b+p) (ds':=[.int<|b+p,.non]) ?_ rfl rfl rfl) ?_
 ·exact LG Js.2
 refine wn (ρ1:=[U<|N2 x y o p,y1,y2,y3,gE<|K'++[.lst [.int a,.int b],.lst [.int<|b+p,.non]],U<|.dT [] [],U<|.lst [.lst [.int 1],.lst [.int 0]],U<|.lst [.int 0,.int 1],dA j,dA 1,U .non]) rfl (qo (zx (d:=.non) rfl)<|Jd (z:=1) (d:=.int<|b+p+o) (ds':=[.int<|b+p,.int<|b+p+o]) ?_ rfl rfl rfl) rfl;exact LH Js.1
end
noncomputable def Fk (o p i:Nat):D:=.lst [.int ((i*(o+p)+p:Nat):Int),.int (((i+1)*(o+p):Nat):Int)]
def lY (o p n:Nat):List D:=(eF n).map<|Fk o p
theorem Ϫ (o p n:Nat):(lY o p n).length=n:=by simp[lY]
theorem ZY (o p n:Nat):lY o p (n+1)=lY o p n++[Fk o p n]:=by simp[lY,mh]
section
variable {x y:Str}{o p:Nat}
theorem Vq {n:Nat}(hn:n<=400):jW [N2 x y o p,.int n,.non,.non]=gE (.lst [.int 0,.int 0]::lY o p n):=by
 obtain⟨ρ',h1,K',a,z8,z9,wU,e1,L,rfl⟩:=uq (g:=gV 8) (b:=gn) (lo:=0) (n:=n) (Y:=[U<|N2 x y o p,dA n,U .non,U .non,U<|.lst [.lst [.int 0,.int 0]],U<|.dT [] [],U<|.lst [.lst [.int 1],.lst [.int 0]],U<|.lst [.int 0,.int 1],G,G,G])
  (λj Y=>∃(K':List D) (a:Int) (z8 z9 wU:Option D),K'.length=j/\K'++[.lst [.int a,.int ((j*(o+p):Nat):Int)]]=.lst [.int 0,.int 0]::lY o p j/\Y=[U<|N2 x y o p,dA n,U .non,U .non,gE<|K'++[.lst [.int a,.int ((j*(o+p):Nat):Int)]],U<|.dT [] [],U<|.lst [.lst [.int 1],.lst [.int 0]],U<|.lst [.int 0,.int 1],z8,z9,wU])
  ⟨[],0,G,G,G,rfl,by simp[lY],by simp⟩ (by
   rintro j Y hj ⟨K',a,z8,z9,wU,e1,L,rfl⟩;obtain⟨w9,Vg,h⟩:=Ş (x:=x) (y:=y) (o:=o) (p:=p) (K':=K') (a:=a) (b:=((j*(o+p):Nat):Int)) (j:=0+(j:Int)) (y1:=dA n) (y2:=some .non) (y3:=some .non) (y9:=z9) (y10:=wU) (by lia);refine⟨_,_,rfl,.inl h,K'++[.lst [.int a,.int ((j*(o+p):Nat):Int)]],((j*(o+p):Nat):Int)+p,dA<|0+j,w9,Vg,by simp[e1],?_,?_⟩
   ·rw[L,ZY];unfold Fk;have c1:((j*(o+p):Nat):Int)+p=((j*(o+p)+p:Nat):Int):=by lia
    rw[c1];rfl
   ·have c2:((j*(o+p):Nat):Int)+p+o=(((j+1)*(o+p):Nat):Int):=by rw[qH];lia
    rw[c2,et]
    rfl)
 have r1:lA [.int n]=U (qG 0 n):=jg (by lia) (by lia);have fo:Ò (λY=>((C (M 1) Å) Y).bind lA) (gV 8) gn [U<|N2 x y o p,dA n,U .non,U .non,U<|.lst [.lst [.int 0,.int 0]],U<|.dT [] [],U<|.lst [.lst [.int 1],.lst [.int 0]],U<|.lst [.int 0,.int 1],G,G,G]=mn (gV 8) gn (qG 0 n) _:=v5 (by show dX (U [D.int n]) lA=_;rw[gj,r1]);rw[←L];unfold jW Ï;show(Ç _ _ [U<|N2 x y o p,dA n,U .non,U .non,G,G,G,G,G,G,G]).bind _=_;refine zn (zx (d:=.lst [.lst [.int 0,.int 0]])<|by kernel_rfl) ?_;refine zn (zx (d:=.dT [] [])<|by kernel_rfl) ?_;refine zn (zx (d:=.lst [.lst [.int 1],.lst [.int 0]])<|by kernel_rfl) ?_;refine zn (zx (d:=.lst [.int 0,.int 1])<|by kernel_rfl) ?_;exact zn (fo.trans h1) rfl
theorem Nc {n:Nat}(hn:n<=400):vI [N2 x y o p,.int n,.non,.non]=gE (lY o p n):=by
 have h:=Vq (x:=x) (y:=y) (o:=o) (p:=p) hn;have sl:gP (.lst (.lst [.int 0,.int 0]::lY o p n)) (U 1) G=gE (lY o p n):=by show U (D.lst<|ã _ (U ((1:Nat):Int)) G)=_;rw[wt];rfl
 have mb:=Nb (x:=x) (y:=y) (o:=o) (p:=p);unfold vI;generalize N2 x y o p=N,(lY o p n)=R at *;obtain⟨R0,e⟩:∃R0,R0=D.lst (.lst [.int 0,.int 0]::R):=⟨_,rfl⟩;replace h:=h.trans<|congrArg U e.symm;rw[←e]at sl;clear e;walk_at "mid"
end
section
variable {x y:Str}{o p n:Nat}
theorem Fy {i:Nat}(h:i<n):eG (.lst<|lY o p n) (.int i)=U (Fk o p i):=wy (by simp[lY,h])
noncomputable abbrev Ð (o p:Nat):D:=.lst [.int ((o+p:Nat):Int),.int ((o+p:Nat):Int)]
theorem Mq {i:Nat}(h:i+1<n):lg [.lst<|lY o p n,.int i,.int 1]=U (Ð o p):=by
 have a1:=Fy (o:=o) (p:=p) (n:=n) (i:=i) (by lia);have a2:=Fy (o:=o) (p:=p) (n:=n) (i:=i+1) h;rw[show((i+1:Nat):Int)=(i:Int)+1 by lia]at a2;have z:(λY=>((C (L eG (M 0)<|M 1)<|C (L eG (M 0)<|L dL (M 1)<|M 2) Å) Y).bind BS) [U<|.lst<|lY o p n,U<|.int i,U<|.int 1]=BS [Fk o p i,Fk o p<|i+1]:=by show((eG (.lst<|lY o p n)<|.int i).bind λa=>(dX ((eG (.lst<|lY o p n)<|.int<|i+1).bind λb=>U [b]) λl=>U (a::l))).bind BS=_;rw[a1,a2];rfl
 have q:qV [U<|.lst<|lY o p n,U<|.int i,U<|.int 1]=U (.lst [.int (((i+1)*(o+p)+p:Nat)-(i*(o+p)+p:Nat):Int),.int (((i+1+1)*(o+p):Nat)-((i+1)*(o+p):Nat):Int)]):=by unfold qV fw;rw[z];rfl
 have c1:(((i+1)*(o+p)+p:Nat)-(i*(o+p)+p:Nat):Int)=((o+p:Nat):Int):=by rw[qH];lia
 have c2:(((i+1+1)*(o+p):Nat)-((i+1)*(o+p):Nat):Int)=((o+p:Nat):Int):=by rw[qH<|i+1];lia
 rw[c1,c2]at q;unfold lg;generalize D.lst (lY o p n)=R at *;clear a1 a2 z c1 c2;walk_at "mid"
end
section
variable {x y:Str}{o p n:Nat}
theorem Q8:iI Ã (Ð o p) (Ð o p)=U (.bl Â):=by have:=(El Ei).eq (neg:=false) (by decide) [((o+p:Nat):Int),((o+p:Nat):Int)] [((o+p:Nat):Int),((o+p:Nat):Int)];exact this.trans (by simp)
theorem Sg (i:Nat)(h:i<=1000):t7 [.int i,.int<|i+1]=U [.int i]:=by rw[Qh (by lia) (by lia) (by lia)<|by lia,show((i:Int)+1-i).toNat=1 by lia];rfl
theorem Vr {i:Nat}(h:i+1<n)(hi:i<=1000):oo [.lst<|lY o p n,.int i,.int i,.int 1,Ð o p]=U (.bl Â):=by
 have g:=Mq (o:=o) (p:=p) h;have e:=Q8 (o:=o) (p:=p);have r:=Sg i hi;generalize D.lst (lY o p n)=R,Ð o p=B at *;have q:mr [U R,U<|.int i,U<|.int i,U<|.int 1,U B]=U (.lst [.bl Â]):=by
  refine yr (λ(_:Unit)=>D.int i) (λ_=>D.bl Â) [()] ?_ (by simp) λu _=>⟨_,rfl,?_⟩
  ·show _=U [D.int i];clear g e;walk_at "mid"
  ·have hc:rG [U R,U<|.int i,U<|.int i,U<|.int 1,U B] [0,3,4]=[U R,U<|.int 1,U B]:=rfl;rw[hc];clear r hc;walk_at "mid"
 have qa:eN lV (C mr Å) [U R,U<|.int i,U<|.int i,U<|.int 1,U B]=U (.bl Â):=by unfold eN C;rw[q];rfl
 unfold oo;generalize eN lV (C mr Å)=Q at *;clear g e r q;walk_at "mid"
theorem ŝ:jV [N2 x y o p,Ð o p]=U (.bl Â):=by
 have l:vV (.int ((o+p:Nat):Int)) (.int ((o+p:Nat):Int))=U (.bl Â):=(u5 _ _).trans (by simp);have q:iW [U<|N2 x y o p,U<|Ð o p]=U (.lst [.bl Â,.bl Â]):=by refine yr gw (λ_=>D.bl Â) (A2 o p) rfl (by simp[A2]) λa ha=>⟨_,rfl,?_⟩;unfold A2 at ha;simp only[cP,dm,or_false]at ha;rcases ha with rfl|rfl<;>exact l
 have qa:eN lV (C iW Å) [U<|N2 x y o p,U<|Ð o p]=U (.bl Â):=by unfold eN C;rw[q];rfl
 unfold jV;generalize eN lV (C iW Å)=Q,N2 x y o p=N,Ð o p=B at *;clear q l;walk_at "mid"
theorem Sh {R:D}{a ra rb:D}{g b s i:Int}{v t w:Int}(f1:dH [0,1,2,3] "behind" a=dA b)(f2:dH [0,1,2,3] "start" a=dA s)(f3:dH [0,1,2,3] "time" a=dA t)(x1:eG R (.int<|i-b)=U ra)(x2:eG ra (.int s)=dA v)(x3:eG R (.int i)=U rb)(x4:eG rb (.int g)=dA w)(e:v+t=w) :
  hW [R,.lst [a],.int g,.int i]=U (.bl Â):=by
 have b1:jM [U R,U<|.lst [a],dA g,dA i,U a]=U (.rt<|.bl Â):=by unfold jM;walk_at "mid"
 have fo:mn (gV 4) jM [a] [U R,U<|.lst [a],dA g,dA i,G]=U (.rt<|.bl Â):=by show((jM [U R,U<|.lst [a],dA g,dA i,U a]).bind _)=_;rw[b1];rfl
 unfold hW;clear b1 f1 f2 f3 x1 x2 x3 x4 e;walk_at "mid"
theorem Vs {j:Nat}(h:j+1<n):hW [.lst<|lY o p n,.lst [gw ⟨.back,1,0,(p:Int),1⟩],.int 0,.int ((j+1:Nat):Int)]=U (.bl Â) :=
 Sh (b:=1) (s:=1) (t:=(p:Int)) (v:=(((j+1)*(o+p):Nat):Int)) (w:=(((j+1)*(o+p)+p:Nat):Int)) rfl rfl rfl (by rw[show((j+1:Nat):Int)-1=(j:Int)by lia];exact Fy (by lia)) rfl (Fy h) rfl (by lia)
theorem Vt {i:Nat}(h:i<n):hW [.lst<|lY o p n,.lst [gw ⟨.wait,0,1,(o:Int),0⟩],.int 1,.int i]=U (.bl Â) :=
 Sh (b:=0) (s:=0) (t:=(o:Int)) (v:=((i*(o+p)+p:Nat):Int)) (w:=(((i+1)*(o+p):Nat):Int)) rfl rfl rfl (by rw[Int.sub_zero];exact Fy h) rfl (Fy h) rfl (by rw[qH];lia)
theorem Ŝ {j:Nat}(h:j+1<n)(hj:j<=900):kl [N2 x y o p,.lst<|lY o p n,.int ((j+1:Nat):Int),.int ((j+1:Nat):Int),Ð o p]=U (.bl Â):=by
 have c0:=Vs (o:=o) (p:=p) h;have c2:=Vt (o:=o) (p:=p) h;have r:=Sg (j+1) (by lia);have l2:iI Ã (.int ((o+p:Nat):Int)) (.int ((o+p:Nat):Int))=U (.bl Â):=(j0 _ _).trans (by simp);have st:∀(g:Int) (a:D) (y5 y6 y7 y8:Option D),(g=0/\a=gw ⟨.back,1,0,(p:Int),1⟩\/g=1/\a=gw ⟨.wait,0,1,(o:Int),0⟩)->∃z8,kB [U<|N2 x y o p,gE<|lY o p n,dA ((j+1:Nat):Int),dA ((j+1:Nat):Int),U<|Ð o p,dA g,y6,y7,y8]=U (.nx [U<|N2 x y o p,gE<|lY o p n,dA ((j+1:Nat):Int),dA ((j+1:Nat):Int),U<|Ð o p,dA g,U<|.lst [a],U<|.lst [a],z8]):=by
  intro g a y5 y6 y7 y8 hg;refine⟨U<|.int ((j+1:Nat):Int),?_⟩;have q2:oJ [U<|N2 x y o p,gE<|lY o p n,dA ((j+1:Nat):Int),dA ((j+1:Nat):Int),U<|Ð o p,dA g,y6,y7,y8]=U (.lst [a]):=by
   rcases hg with⟨rfl,rfl⟩|⟨rfl,rfl⟩
   ·kernel_rfl
   ·kernel_rfl
  have q1:oI [U<|N2 x y o p,gE<|lY o p n,dA ((j+1:Nat):Int),dA ((j+1:Nat):Int),U<|Ð o p,dA g,U<|.lst [a],y7,y8]=U (.lst [a]):=by
   refine u8 (λ(_:Unit)=>a) (λ_=>Â) (λ_=>a) [()] rfl (by simp) λu _=>⟨_,rfl,?_,λ_=>rfl⟩;show tb _ _=_;unfold tb;rcases hg with⟨rfl,rfl⟩|⟨rfl,rfl⟩
   ·exact congrArg (·.bind Cr) l2
   ·exact congrArg (·.bind Cr) l2
  have m1:hW [.lst<|lY o p n,.lst [a],.int g,.int ((j+1:Nat):Int)]=U (.bl Â):=by
   rcases hg with⟨rfl,rfl⟩|⟨rfl,rfl⟩
   ·exact c0
   ·exact c2
  unfold kB;refine qo (zx q2)<|qo (zx q1) ?_;refine(v5 (O:=[.int ((j+1:Nat):Int)]) ?_).trans<|wn (ρ1:=[U<|N2 x y o p,gE<|lY o p n,dA ((j+1:Nat):Int),dA ((j+1:Nat):Int),U<|Ð o p,dA g,U<|.lst [a],U<|.lst [a],dA ((j+1:Nat):Int)]) rfl ?_ rfl
  ·show dX (U [D.int ((j+1:Nat):Int),D.int<|((j+1:Nat):Int)+1]) t7=_;rw[gj,r]
  ·have b1:(cl hW<|C (M 1)<|C (M 7)<|C (M 5)<|C (M 8) Å) [U<|N2 x y o p,gE<|lY o p n,dA ((j+1:Nat):Int),dA ((j+1:Nat):Int),U<|Ð o p,dA g,U<|.lst [a],U<|.lst [a],dA ((j+1:Nat):Int)]=U (.bl Â):=m1;unfold oA Ö Û tb;rw[b1];rfl
 obtain⟨w0,s0⟩:=st 0 _ G G G G<|.inl ⟨rfl,rfl⟩;obtain⟨w1,s1⟩:=st 1 _ G (U<|.lst [gw ⟨.back,1,0,(p:Int),1⟩]) (U<|.lst [gw ⟨.back,1,0,(p:Int),1⟩]) w0<|.inr ⟨rfl,rfl⟩;have fo:Ò (λY=>((C (eN fV<|C (e1 (dH [4] "names")<|M 0) Å) Å) Y).bind lA) (gV 5) kB [U<|N2 x y o p,gE<|lY o p n,dA ((j+1:Nat):Int),dA ((j+1:Nat):Int),U<|Ð o p,G,G,G,G]=_:=(v5 (O:=[.int 0,.int 1])<|by kernel_rfl).trans<|wn rfl s0<|wn rfl s1 rfl;unfold kl Ï;exact zn fo rfl
end
def UD (Y:L3.Env):Nat:=match Y with
 |[_,_,_,_,U<|.int d]=>d.toNat
 |_=>0
def Nr (mv:Nat)(X:Nat->Nat->Int)(c:Nat)(K':Nat->Int)(n:Nat):Prop:=∀g,g<mv->X (n+c) g-X n g=K' g
instance (mv:Nat) (X:Nat->Nat->Int) (c:Nat) (K':Nat->Int) (n:Nat):Decidable (Nr mv X c K' n):=by unfold Nr;infer_instance
section
variable {x y:Str}{o p n:Nat}
theorem ś {j:Nat}(h:j+2=n)(hn:n<=400):p6 [N2 x y o p,.lst<|lY o p n,.tup [.int 1,.int j,Ð o p]]=U (.bl Â):=by
 have gs:=Vr (o:=o) (p:=p) (n:=n) (i:=j) (by lia) (by lia);have nu:=ŝ (x:=x) (y:=y) (o:=o) (p:=p);have ac:kl [N2 x y o p,.lst<|lY o p n,.int<|j+1,.int<|j+1,Ð o p]=U (.bl Â):=Ŝ (by lia) (by lia);have mb:=Nb (x:=x) (y:=y) (o:=o) (p:=p);have l1:fV [.lst<|lY o p n]=U (.int n):=(vi _).trans (by rw[Ϫ]);have l2:fV [Ð o p]=U (.int 2):=rfl;have l3:fV [.lst [.str x,.str y]]=U (.int 2):=rfl;have f1:dH [4] "names" (N2 x y o p)=U (.lst [.str x,.str y]):=rfl;have x0:eG (.tup [.int 1,.int j,Ð o p]) (.int 0)=U (.int 1):=rfl;have x1:eG (.tup [.int 1,.int j,Ð o p]) (.int 1)=U (.int j):=rfl;have x2:K0 (.tup [.int 1,.int j,Ð o p]) (.int 2)=U (Ð o p):=rfl;have c1:¬(j:Int)<0:=by lia
 have c2:¬(n:Int)<j+1+1:=by lia
 unfold p6;generalize D.tup [.int 1,.int j,Ð o p]=P,N2 x y o p=N at *;generalize Ð o p=B,D.lst (lY o p n)=R,D.lst [.str x,.str y]=L',(n:Int)=nn,(j:Int)=jj at *;clear h hn;have s1:D.sc (.int 1)=Â:=rfl;have s2:D.sc (.int jj)=Â:=rfl;unfold yZ;walk_at "mid"
theorem ϩ {k:Nat}(h:k+1<n)(hk:k<=1000):fF [.lst<|lY o p n,.int k,.int 1,Ð o p]=U (.int 0):=by
 have JN:∀d:Nat,d<=k->Ü (tb<|L uL (M 4)<|eC<|.int 0) (tb<|L (iI Ã) (cl lg<|C (M 0)<|C (L kx (M 4)<|eC<|.int 1)<|C (M 2) Å)<|M 3) [U<|.lst<|lY o p n,U<|.int k,U<|.int 1,U<|Ð o p,U<|.int d]=U (decide<|0<d):=by
  intro d hd;by_cases h0:d=0
  ·subst h0;rw[decide_eq_false<|by lia];have e0:((0:Nat):Int)=0:=rfl;rw[e0];generalize D.lst (lY o p n)=R,Ð o p=B at *;clear h hk hd e0;walk_at "mid"
  ·have g1:=Mq (o:=o) (p:=p) (n:=n) (i:=d-1) (by lia);have ev:=Q8 (o:=o) (p:=p);have e1:((d-1:Nat):Int)=(d:Int)-1:=by lia
   rw[e1]at g1;have gt:(d:Int) > 0:=by lia
   rw[decide_eq_true<|show 0<d by lia];generalize D.lst (lY o p n)=R,Ð o p=B,(d:Int)=dd at *;clear h hk hd e1 h0;walk_at "mid"
 obtain⟨ρ',h1,⟨d,rfl,hd⟩,hc⟩:=OR (c:=Ü (tb<|L uL (M 4)<|eC<|.int 0)<|tb<|L (iI Ã) (cl lg<|C (M 0)<|C (L kx (M 4)<|eC<|.int 1)<|C (M 2) Å)<|M 3) (b:=mD)
  (λY=>∃d:Nat,Y=[U<|.lst<|lY o p n,U<|.int k,U<|.int 1,U<|Ð o p,U<|.int d]/\d<=k) UD (by
   rintro Y ⟨d,rfl,hd⟩;refine⟨_,JN d hd,λht=>?_⟩;have t1:=of_decide_eq_true ht;refine⟨[U<|.lst<|lY o p n,U<|.int k,U<|.int 1,U<|Ð o p,U<|.int ((d-1:Nat):Int)],.inl ?_,⟨d-1,rfl,by lia⟩,?_⟩
   ·have e1:((d-1:Nat):Int)=(d:Int)-1:=by lia
    rw[e1];rfl
   ·show((d-1:Nat):Int).toNat<(d:Int).toNat
    lia) Bl [U<|.lst<|lY o p n,U<|.int k,U<|.int 1,U<|Ð o p,U<|.int k] ⟨k,rfl,di _⟩ (zul (by show(k:Int).toNat<1048576;lia))
 rw[JN d hd]at hc;have hc:d=0:=by simpa using hc
 subst hc;unfold fF qX;clear JN;generalize (Ü (tb<|L uL (M 4)<|eC<|.int 0)<|tb<|L (iI Ã) (cl lg<|C (M 0)<|C (L kx (M 4)<|eC<|.int 1)<|C (M 2) Å)<|M 3)=cc,D.lst (lY o p n)=R,Ð o p=B at *;clear h hk hd;walk_at "mid"
end
variable {fs:L3.Env->Option (List D)}{y0:Option D}
section
variable {x y:Str}{o p n:Nat}
theorem Nd {g:D->L3.Env->Option L3.Env}{b:SF}{d r:D}(h1:g d Y=U ρ1)(h2:b ρ1=U (.rt r)):mn g b (d::O) Y=U (.rt r):=by unfold mn;rw[h1];show(b ρ1).bind _=_;rw[h2];rfl
theorem Vu {f g:SF}{d:D}(h:f Y=U (.rt d)):Ç f g Y=U (.rt d):=by unfold Ç;rw[h];rfl
theorem RQ {f:EF}{d:D}(h:f Y=U d):ä f Y=U (.nx Y):=by unfold ä;rw[h];rfl
theorem xN {q:BF}{u w:SF}{r:Option ï}(h:q Y=U Â)(h2:u Y=r):Ö q u w Y=r:=by unfold Ö;rw[h];exact h2
theorem qU {q:BF}{u w:SF}{r:Option ï}(h:q Y=U Ã)(h2:w Y=r):Ö q u w Y=r:=by unfold Ö;rw[h];exact h2
theorem iQ {f:EF}{b:Bool}(h:f Y=U (.bl b)):tb f Y=U b:=by unfold tb;rw[h];rfl
theorem zy {m:List D->Option D}{xs:List D}{r:Option D}(h1:fs Y=U O)(h2:m (O++xs)=r):(λY=>(fs Y).bind λO=>m<|O++xs) Y=r:=by show(fs Y).bind _=_;rw[h1];exact h2
theorem vz {β γ:Type}{fs:γ->Option α}{m:α->Option β}{Y:γ}{O:α}{r:Option β}(h1:fs Y=U O)(h2:m O=r):(λY=>(fs Y).bind m) Y=r:=by show(fs Y).bind _=_;rw[h1];exact h2
theorem fO {op:D->D->Option D}{f g:EF}{a b:D}{r:Option D}(h1:f Y=U a)(h2:g Y=U b)(h3:op a b=r):L op f g Y=r:=by unfold L;rw[h1,h2];exact h3
theorem IK {f g:SF}{d:D}{k:ï->Option D}{r:Option D}(h:f Y=U (.rt d))(h2:k (.rt d)=r):(Ç f g Y).bind k=r:=by rw[Vu h];exact h2
theorem jq {f:EF}{d:D}(h:f Y=U d):É f Y=U (.rt d):=by unfold É;rw[h];rfl
theorem Ś {R:D}{j:Int}{y4:Option D}(er:fF [R,.int j,.int 1,Ð o p]=dA 0):(λY:L3.Env=>(M 7 Y).bind λ_=>((C (yZ<|M 5)<|C (yZ<|cl fF<|C (M 3)<|C (M 6)<|C (M 5)<|C (M 7) Å)<|C (M 7) Å) Y).bind λO=>U<|D.tup O) [y0,y1,y2,U R,y4,dA 1,dA j,U<|Ð o p]=U (D.tup [.int 1,.int 0,Ð o p]):=by
 have L:(yZ<|cl fF<|C (M 3)<|C (M 6)<|C (M 5)<|C (M 7) Å) [y0,y1,y2,U R,y4,dA 1,dA j,U<|Ð o p]=dA 0:=by unfold yZ;show(dX (fF [R,.int j,.int 1,Ð o p]) _)=_;rw[er];rfl
 show(dX (dX (dX ((yZ<|cl fF<|C (M 3)<|C (M 6)<|C (M 5)<|C (M 7) Å) [y0,y1,y2,U R,y4,dA 1,dA j,U<|Ð o p]) λa=>U [a,Ð o p]) λl=>U (D.int 1::l)) λO=>U<|D.tup O)=_;rw[L];rfl
theorem Ϩ {j:Nat}(h:j+2=n)(hn:n<=400):jA [N2 x y o p,.int n,.non]=U (.tup [.int 1,.int 0,Ð o p]):=by
 have ru:=Nc (x:=x) (y:=y) (o:=o) (p:=p) (n:=n) hn;have mb:=Nb (x:=x) (y:=y) (o:=o) (p:=p);have lo:li [N2 x y o p]=U .non:=by kernel_rfl
 have go:=ś (x:=x) (y:=y) (o:=o) (p:=p) h hn;have er:=ϩ (o:=o) (p:=p) (n:=n) (k:=j) (by lia) (by lia);have gr:=Mq (o:=o) (p:=p) (n:=n) (i:=j) (by lia);obtain⟨O,rg⟩:∃O,t7 [.int 1,.int<|n-1+1]=U (.int 1::O):=by rw[Qh (by lia) (by lia) (by lia)<|by lia,show((n:Int)-1+1-1).toNat=j+1 by lia];unfold qG;rw[wX];exact⟨_,rfl⟩
 have b1:kC [U<|N2 x y o p,dA n,U .non,gE<|lY o p n,dA<|n-1,dA 1,G,G]=U (.rt<|.tup [.int 1,.int 0,Ð o p]):=by unfold kC;refine qo (zx (d:=.int j)<|fO rfl rfl<|(ut _ _).trans (by rw[show(n:Int)-1-1=(j:Int)by lia]))<|qo (zx<|zy rfl gr)<|xN (iQ<|zy rfl go) ?_;exact jq<|Ś er
 have fo:Ò (λY=>((C (eC<|.int 1)<|C (L dL (M 4)<|eC<|.int 1) Å) Y).bind t7) (gV 5) kC [U<|N2 x y o p,dA n,U .non,gE<|lY o p n,dA<|n-1,G,G,G]=U (.rt<|.tup [.int 1,.int 0,Ð o p]):=(v5<|vz rfl rg).trans<|Nd rfl b1;unfold jA Ï;refine zn (RQ<|zy rfl lo)<|zn (zx<|zy rfl ru)<|zn (zx (d:=.int<|n-1) ?_) ?_
 ·show(dX (ko 4 "most_behind" e9 (N2 x y o p) []) λm=>kx (.int n) m)=_;rw[mb];rfl
 ·exact IK fo rfl
theorem zra:jA [N2 x y o p,.int 1,.non]=U .non:=by
 have ru:=Nc (x:=x) (y:=y) (o:=o) (p:=p) (n:=1) (by lia);have lo:li [N2 x y o p]=U .non:=by kernel_rfl
 unfold jA Ï;refine zn (RQ<|zy rfl lo)<|zn (zx<|zy rfl ru) ?_;kernel_rfl
end
theorem xr {f:SF}{g:EM}{k:D×L3.Env->Option D}{r:Option D}(h1:f Y=U (.nx ρ'))(h2:(g ρ').bind k=r):(Ó f g Y).bind k=r:=by unfold Ó;rw[h1];exact h2
theorem u2 {f:EF}{d:D}{k:D×L3.Env->Option D}{r:Option D}(h1:f Y=U d)(h2:k (d,Y)=r):(á f Y).bind k=r:=by unfold á;rw[h1];exact h2
theorem Vv {q:BF}{f g:EF}{r:Option D}(h:q Y=U Â)(h2:f Y=r):î q f g Y=r:=by unfold î;rw[h];exact h2
theorem JC {q:BF}{f g:EF}{r:Option D}(h:q Y=U Ã)(h2:g Y=r):î q f g Y=r:=by unfold î;rw[h];exact h2
theorem zrc {ns:List Nat}(h:∀n∈ns,n<=1000000000000000)(hl:ns.length<=1000):iK [.lst<|ns.map λ(n:Nat)=>D.int n]=U (dh<|ns.map λ(n:Nat)=>eA n):=by
 have q:lH [gE<|ns.map λ(n:Nat)=>D.int n]=gE (ns.map λ(n:Nat)=>D.str<|eA n) :=
  yr (λ(n:Nat)=>D.int n) (λn=>D.str<|eA n) ns rfl (by lia) λn hn=>⟨_,rfl,M4 (by lia)<|by have:=h n hn;lia⟩
 unfold iK Ï;show((É lH [gE<|ns.map λ(n:Nat)=>D.int n]).bind _)=_;rw[jq q];show U (D.lst _)=U (D.lst<|(ns.map λ(n:Nat)=>eA n).map D.str);rw[fk];rfl
section
variable {x y:Str}{o p n:Nat}{k:Int}
def D0 (o p n:Nat):Str:=if n=1 then "none" else Str.join (fW 32) ["1","0",eA ((o+p:Nat):Int),eA ((o+p:Nat):Int)]
theorem zrd (h1:1<=n)(hn:n<=200)(ho:o<=1000000000)(hp:p<=1000000000):mZ [dk (N2 x y o p) tl pt k,dh ["again",eA n]]=U (.tup [.str<|D0 o p n,dk (N2 x y o p) tl pt k]):=by
 have ti:jP [.str<|eA n]=dA (n:Int):=qk (by lia);have ar:(C (e1 (dH [5,6] "net")<|M 0)<|C (eN jP<|C (L eG (M 1)<|eC<|.int 1) Å) Å) [U<|dk (N2 x y o p) tl pt k,U<|dh ["again",eA n],G]=U [N2 x y o p,.int n]:=by show(dX (dX (jP [.str<|eA n]) λa=>U [a]) λl=>U (N2 x y o p::l))=_;rw[ti];rfl
 unfold mZ Ý D0;by_cases e:n=1
 ·subst e;rw[if_pos rfl];exact xr (zx<|zy ar zra)<|u2 (Vv (iQ rfl) rfl) rfl
 ·rw[if_neg e];obtain⟨j,rfl⟩:∃j,n=j+2:=⟨n-2,by lia⟩;refine xr (zx<|zy ar<|Ϩ rfl<|by lia)<|u2 (JC (iQ rfl) ?_) rfl;have nw:iK [.lst [.int 1,.int 0,.int ((o+p:Nat):Int),.int ((o+p:Nat):Int)]]=U (dh ["1","0",eA ((o+p:Nat):Int),eA ((o+p:Nat):Int)]):=by
   have:=zrc (ns:=[1,0,o+p,o+p]) (by simp;lia) (by simp);exact this.trans (by
    have i1:eA ((1:Nat):Int) = "1":=by decide +kernel
    have i0:eA ((0:Nat):Int) = "0":=by decide +kernel
    show U (dh [eA ((1:Nat):Int),eA ((0:Nat):Int),_,_])=_;rw[i1,i0])
  refine fO (op:=oB) (a:=.str " ") rfl (zy (O:=[.lst [.int 1,.int 0,.int ((o+p:Nat):Int),.int ((o+p:Nat):Int)]]) (by kernel_rfl) nw) ?_;rw[ug];exact Jk (b:=15) (λw hw=>by
   simp only[cP,dm,or_false]at hw;have:=yx (n:=o+p) (by lia);rcases hw with rfl|rfl|rfl|rfl
   ·decide
   ·decide
   ·exact this
   ·exact this) (by rw[Lo];simp)
end
variable {first:Int}
theorem Si {n:Nat}{i w:Int}(h1:-w<=i)(h2:i<=w)(hw:w<2 ^ n):Sz n i:=by
 unfold Sz;have:(i.natAbs:Int)<2 ^ n:=by lia
 exact_mod_cast this
noncomputable def Õ (ws:List Str):Nat:=(ws.map (·.length)).foldr max 0
theorem Je {n:Nat}(h:∀w∈ws,w.length<=n):Õ ws<=n:=by
 induction ws with
 |nil=>exact e8 _
 |cons x xs ih=>have h1:=h x cK;have h2:=ih λw hw=>h w<|cQ _ hw;show max x.length (Õ xs)<=n;lia
theorem MK (h:w∈ws):w.length<=Õ ws:=by
 induction ws with
 |nil=>cases h
 |cons x xs ih=>
  show w.length<=max x.length (Õ xs);rcases cP.mp h with rfl|h
  ·lia
  ·have:=ih h;lia
theorem zre (h:ws≠[]):∃w∈ws,w.length=Õ ws:=by
 induction ws with
 |nil=>exact absurd rfl h
 |cons x xs ih=>
  show∃w∈x::xs,w.length=max x.length (Õ xs);by_cases hx:xs=[]
  ·exact⟨x,cK,by subst hx;show _=max _ 0;lia⟩
  ·obtain⟨w,hw,e⟩:=ih hx;by_cases hc:Õ xs<=x.length
   ·exact⟨x,cK,by lia⟩
   ·exact⟨w,cQ _ hw,by lia⟩
theorem zrf (h:ws≠[]):tY [.lst<|ws.map λw=>D.int w.length]=dA (Õ ws:Int):=by
 have e:(ws.map λw=>D.int w.length)=(ws.map λw=>(w.length:Int)).map D.int:=by rw[fk];rfl
 obtain⟨y,ys,rfl⟩:∃y ys,ws=y::ys:=by
  cases ws with
  |nil=>exact absurd rfl h
  |cons y ys=>exact⟨y,ys,rfl⟩
 have hm:∀L',BD (((y::ys).map λw=>(w.length:Int)))=U L'->L'=(Õ (y::ys):Int):=by intro L' hM;obtain⟨h1,h2⟩:=Mb hM;obtain⟨w,hw,ew⟩:=dP.mp h1;obtain⟨w2,Gv,ew2⟩:=zre (ws:=y::ys) (by simp);have a1:=MK hw;have a2:=h2 _<|dP.mpr ⟨w2,Gv,rfl⟩;lia
 rw[e];show(pJ _).bind _=_;rw[Pv,gj];have:∃L',BD ((y::ys).map λw=>(w.length:Int))=U L':=⟨_,rfl⟩;obtain⟨L',hM⟩:=this;rw[hM,hm L' hM];rfl
theorem ř (hb:∀w∈ws,w.length<=2000)(hl:ws.length<=1000)(r:L3.Env){f:EF}(h:f r=U (dh ws)) :
  fw (ß f) 1 [] (gV 0) gW (eN fV<|C (M 0) Å) r=gE (ws.map λw=>D.int w.length):=by
 refine yr D.str (λw=>D.int w.length) ws (by unfold ß;rw[h];rfl) (by lia) λw hw=>⟨[U<|.str w],rfl,?_⟩;have:=Mm (x:=w) (by have:=hb w hw;lia);clear hb;walk_at "mid"
theorem Qo (h:ws≠[])(hb:∀w∈ws,w.length<=2000)(hl:ws.length<=1000):pO [dh ws]=dA (Õ ws:Int):=by have q:=ř hb hl [U<|dh ws] (f:=M 0) rfl;have m:=zrf h;have q:t6 [U<|dh ws]=gE (ws.map λw=>D.int w.length):=q;generalize dh ws=K',(ws.map λw=>D.int w.length)=L2 at *;clear hb hl h;unfold pO;walk_at "mid"
def jN (c:Nat)(w:Str)(n:Nat):Str:=qF c (n-w.length)++w
theorem Q9 (w:Str)(c:Nat):qF c 0++w=w:=by cases w with|mk a=>show(⟨hJ 0 c++a⟩:Str)=⟨a⟩;simp
theorem Yv (w:Str)(n:Nat):Txt.rjust w (n:Int)=jN 32 w n:=by
 unfold Txt.rjust jN;by_cases h:(n:Int)<=w.length
 ·rw[if_pos h,show n-w.length=0 by lia,Q9]
 ·rw[if_neg h,fK];unfold Builtin.Str.padded;show(⟨_⟩:Str)=⟨hJ _ 32++w.cps⟩;simp
theorem Yw (w:Str)(n:Nat)(h1:w.cps[0]?≠U 43)(h2:w.cps[0]?≠U 45):Txt.zfill w (n:Int)=jN 48 w n:=by
 unfold Txt.zfill jN;by_cases h:(n:Int)<=w.length
 ·rw[if_pos h,show n-w.length=0 by lia,Q9]
 ·rw[if_neg h,fK];unfold PySem.zfilled;split
  ·rename_i e;exact absurd e h1
  ·rename_i e;exact absurd e h2
  ·unfold Builtin.Str.padded;show(⟨_⟩:Str)=⟨hJ _ 48++w.cps⟩;simp
theorem Yx (w:Str)(n:Nat):Txt.ljust w (n:Int)=w++qF 32 (n-w.length):=by
 unfold Txt.ljust;by_cases h:(n:Int)<=w.length
 ·rw[if_pos h,show n-w.length=0 by lia];cases w with|mk a=>show(⟨a⟩:Str)=⟨a++hJ 0 32⟩;simp
 ·rw[if_neg h,fK];unfold Builtin.Str.padded;show(⟨_⟩:Str)=⟨w.cps++hJ _ 32⟩;simp
theorem GY {n:Nat}(h:n<=10000):PadOk (n:Int)=Â:=by unfold PadOk fitsSsize Builtin.Str.tooLong sizeLine;rw[fK];simp;lia
theorem ML {T:Str->Int->Str}{n:Nat}(h:n<=10000):zL T (.str w) (.int n)=U (.str<|T w (n:Int)):=by show(if PadOk (n:Int)=Â then _ else G)=_;rw[if_pos<|GY h]
theorem zrg {i:Int}(h:0<=i):(eA i).cps[0]?≠U 43/\(eA i).cps[0]?≠U 45:=by
 obtain⟨n,rfl⟩:∃n:Nat,i=n:=⟨i.toNat,by lia⟩;have key:∀x∈(eA n).cps.toList,48<=x:=by intro x hx;unfold eA at hx;rw[Str.ofString_eq_toList]at hx;simp at hx;obtain⟨c,hc,rfl⟩:=hx;have hc:c∈(zY n).toList:=hc;unfold zY at hc;rw[String.toList_ofList]at hc;have:=uN (b:=10) (by decide) (by decide) hc;unfold Char.isDigit at this;simp at this;exact this.1
 constructor
 ·intro e;have:=key 43 (by rw[←vA];exact wV e);lia
 ·intro e;have:=key 45 (by rw[←vA];exact wV e);lia
theorem RR {c:Nat}(h:c<1000)(n:Nat):dD.strOk (qF c n)=Â:=by unfold dD.strOk qF;rw[←sK,gL];intro x hx;simp at hx;rw[decide_eq_true_iff,hx.2];lia
theorem Ra (c n:Nat):(qF c n).length=n:=by show(hJ n c).size=n;simp
theorem zrh {c n:Nat}(h:w.length<=n):(jN c w n).length=n:=by unfold jN;rw[ya,Ra];lia
theorem jr:("round":Str).length=5:=by with_unfolding_all rfl
def wT:Option Int->Str
 |none=>"-"
 |some i=>eA i
def DX (t:Option Int):Prop:=∀i,t=U i->Sz 1900 i
theorem Ř {t:Option Int}(h:DX t):(wT t).length<=2000:=by
 cases t with
 |none=>decide
 |some i=>have:=QU<|h i rfl;show(eA i).length<=2000;lia
theorem Vw (t:Option Int):dD.strOk (wT t)=Â:=by
 cases t with
 |none=>exact zw _
 |some i=>exact uz i
theorem XN {t:Option Int}(h:DX t):m7 [sE t]=U (.str<|wT t):=by
 cases t with
 |none=>rfl
 |some i=>have:=Qk<|h i rfl;unfold m7 wT sE;clear h;walk_at "mid"
def nE (name:Str)(ts:List<|Option Int):List Str:=name::ts.map wT
def xJ (ws:List Str):List Str:=ws.map λw=>jN 32 w<|Õ ws
theorem RT {name:Str}{ts:List (Option Int)}(hn:name.length<=2000)(ht:∀t∈ts,DX t):∀w∈nE name ts,w.length<=2000:=by
 intro w hw;rcases cP.mp hw with rfl|hw
 ·exact hn
 ·obtain⟨t,Uj,rfl⟩:=dP.mp hw;exact Ř<|ht t Uj
theorem Mr (x:Str)(ys:List Str)(h:ys.length<=1000):dL (.lst [.str x]) (dh ys)=U (dh (x::ys)):=by unfold dh;rw[Qg<|by simp;lia];rfl
theorem WT {name:Str}{ts:List (Option Int)}(hn:name.length<=2000)(ht:∀t∈ts,DX t)(hl:ts.length<=900):lL [.str name,.lst<|ts.map sE]=U (dh<|xJ<|nE name ts):=by
 have q2:oN [U<|.str name,gE<|ts.map sE,G,G]=U (dh<|ts.map wT):=by unfold dh;rw[fk];refine yr sE (λt=>D.str<|wT t) ts rfl (by lia) λt h=>⟨[U<|sE t],rfl,?_⟩;have:=XN<|ht t h;clear ht;walk_at "mid"
 have a1:=Mr name (ts.map wT) (by simp;lia);have hb:=RT hn ht;have w1:=Qo (ws:=nE name ts) (by unfold nE;simp) hb (by unfold nE;simp;lia);have hw:=Je hb;have q1:oM [U<|.str name,gE<|ts.map sE,U<|dh<|nE name ts,dA (Õ (nE name ts):Int)]=U (dh<|xJ<|nE name ts):=by unfold dh xJ;rw[fk];refine yr D.str (λw=>D.str<|jN 32 w<|Õ<|nE name ts) (nE name ts) rfl (by unfold nE;simp;lia) λw Gv=>⟨[U<|.str w,dA (Õ (nE name ts):Int)],rfl,?_⟩;have:=ML (T:=Txt.rjust) (w:=w) (n:=Õ<|nE name ts) (by lia);rw[Yv]at this;clear hw hb ht hl;walk_at "mid"
 have e:dh (name::ts.map wT)=dh (nE name ts):=rfl;rw[e]at a1;generalize dh (xJ<|nE name ts)=L1,dh (nE name ts)=L2,(Õ (nE name ts):Int)=W,dh (ts.map wT)=L3,ts.map sE=L4 at *;clear hw hb ht hl hn e;unfold lL;walk_at "mid"
def jF (first:Int)(n:Nat):List Str:=(eF n).map λ(k:Nat)=>eA<|first+(k:Int)
def F0 (first:Int)(n:Nat):List Str:=(("round":Str)++qF 32 (Õ ("round"::jF first n)-5))::(jF first n).map λw=>jN 48 w<|Õ ("round"::jF first n)
theorem RU {k:Nat}(h:0<=first/\first<=1000000000)(hk:k<=1000):Sz 1900 (first+(k:Int)):=(Si (n:=64) (w:=1000001000) (by lia) (by lia)<|by decide).mono (by decide)
theorem ŗ {n:Nat}(h:0<=first/\first<=1000000000)(hn:n<=900):∀w∈jF first n,w.length<=2000:=by intro w hw;obtain⟨k,hk,rfl⟩:=dP.mp hw;have:=QU (RU (k:=k) h<|by have:=fM.mp hk;lia);lia
theorem Fz (first:Int)(n:Nat):(jF first n).length=n:=by unfold jF;simp
theorem Sj {n:Nat}(h:0<=first/\first<=1000000000)(hn:n<=900):∀w∈("round":Str)::jF first n,w.length<=2000:=by
 intro w hw;rcases cP.mp hw with rfl|hw
 ·rw[jr];decide
 ·exact ŗ h hn w hw
theorem Ŗ {n:Nat}(h:0<=first/\first<=1000000000)(hn:n<=900)(r:L3.Env)(hr:fi r=U ((eF n).map λ(t:Nat)=>D.int t))(hc:rG r cap=[dA first]) :
  fw fi 1 cap (gV 0) gW (eN iM<|C (L dL (M 1)<|M 0) Å) r=U (dh<|jF first n):=by
 unfold dh jF;rw[fk];refine yr (λ(t:Nat)=>D.int t) (λk=>D.str<|eA<|first+(k:Int)) (eF n) hr (by simp;lia) λk hk=>⟨[dA k,dA first],by rw[hc];rfl,?_⟩;have:=Qk (RU (k:=k) h<|by have:=fM.mp hk;lia);clear hc hr h hn hk;walk_at "mid"
theorem V0 {n:Nat}(h:0<=first/\first<=1000000000)(hn:n<=900):kE [.int first,.int n]=U (dh<|F0 first n):=by
 have q2:nh [dA first,dA n,G,G]=U (dh<|jF first n):=Ŗ h hn _ (RJ rfl<|by lia) rfl;have a1:=Mr "round" (jF first n) (by rw[Fz];lia);have hb:=Sj h hn;have w1:=Qo (ws:="round"::jF first n) (by simp) hb (by rw[cX,Fz];lia);have hw:=Je hb;have q1:nc [dA first,dA n,U<|dh<|jF first n,dA (Õ ("round"::jF first n):Int)]=U (dh<|(jF first n).map λw=>jN 48 w<|Õ ("round"::jF first n)):=by unfold dh;rw[fk];refine yr D.str (λw=>D.str<|jN 48 w<|Õ ("round"::jF first n)) (jF first n) rfl (by rw[Fz];lia) λw Gv=>⟨[U<|.str w,dA (Õ ("round"::jF first n):Int)],rfl,?_⟩;have:=ML (T:=Txt.zfill) (w:=w) (n:=Õ ("round"::jF first n)) (by lia);obtain⟨k,hk,ek⟩:=dP.mp Gv;have hh:=zrg (i:=first+(k:Int)) (by lia);rw[ek]at hh;rw[Yw _ _ hh.1 hh.2]at this;clear hw hb w1 a1 q2 Gv hk ek hh;walk_at "mid"
 have p1:=ML (T:=Txt.ljust) (w:="round") (n:=Õ ("round"::jF first n)) (by lia);rw[Yx,jr]at p1;have a2:=Mr (("round":Str)++qF 32 (Õ ("round"::jF first n)-5)) ((jF first n).map λw=>jN 48 w<|Õ ("round"::jF first n)) (by rw[dr,Fz];lia);unfold F0;generalize dh ((("round":Str)++qF 32 (Õ ("round"::jF first n)-5))::(jF first n).map λw=>jN 48 w<|Õ ("round"::jF first n))=L1 at *;generalize (("round":Str)++qF 32 (Õ ("round"::jF first n)-5))=L0,dh ((jF first n).map λw=>jN 48 w<|Õ ("round"::jF first n))=L2,dh ("round"::jF first n)=L3,dh (jF first n)=L4,(Õ ("round"::jF first n):Int)=W at *;clear hw hb h hn;unfold kE;walk_at "mid"
variable {Æ:List (List<|Option Int)}
def rP (row:List<|Option Int):D:=.lst<|row.map sE
section
variable (mo:List Str)(Æ:List<|List<|Option Int)(first:Int)
def ç (j:Nat):List Str:=if j=0 then "round"::jF first Æ.length else nE (mo.getD (j-1) "") (Æ.map λrow=>row.getD (j-1) G)
def FC (j:Nat):List Str:=if j=0 then F0 first Æ.length else xJ (ç mo Æ first j)
def jZ (k:Nat):Str:=Str.join " " ((eF<|mo.length+1).map λj=>(FC mo Æ first j).getD k "")
def A6:Str:=Str.join "\n" ((eF<|Æ.length+1).map<|jZ mo Æ first)
def lm (j k:Nat):Str:=if j=0/\k=0 then("round":Str)++qF 32 (Õ (ç mo Æ first 0)-5)else jN (if j=0 then 48 else 32) ((ç mo Æ first j).getD k "") (Õ<|ç mo Æ first j)
structure xD:Prop where
 n:∀x∈mo,dD.strOk x=Â/\x.length<=100
 nl:mo.length<=7
 r:∀row∈Æ,row.length=mo.length/\∀t∈row,DX t
 rl:Æ.length<=400
 f:0<=first/\first<=1000000000
end
theorem ϧ (j:Nat):(ç mo Æ first j).length=Æ.length+1:=by
 unfold ç;by_cases h:j=0
 ·rw[if_pos h,cX,Fz]
 ·rw[if_neg h];unfold nE;simp
theorem RV (S':xD mo Æ first)(i:Nat):∀t∈Æ.map (λrow=>row.getD i G),DX t:=by
 intro t ht;obtain⟨row,hr,rfl⟩:=dP.mp ht;have h:=(S'.r row hr).2;rw[dG];cases e:row[i]? with
 |none=>intro z hz;cases hz
 |some x=>exact h x<|iq e
theorem RW (S':xD mo Æ first)(i:Nat):dD.strOk (mo.getD i "")=Â/\(mo.getD i "").length<=2000:=by
 rw[dG];cases e:mo[i]? with
 |none=>exact⟨zw _,by decide⟩
 |some x=>have:=S'.n x<|iq e;exact⟨this.1,by show x.length<=2000;lia⟩
theorem Sk (S':xD mo Æ first)(j:Nat):∀w∈ç mo Æ first j,w.length<=2000:=by
 unfold ç;have:=S'.rl;by_cases h:j=0
 ·rw[if_pos h];exact Sj S'.f (by lia)
 ·rw[if_neg h];exact RT (RW S' _).2<|RV S' _
theorem ŕ (S':xD mo Æ first)(j:Nat):∀w∈ç mo Æ first j,dD.strOk w=Â:=by
 unfold ç;by_cases h:j=0
 ·rw[if_pos h];intro w hw;rcases cP.mp hw with rfl|hw
  ·exact zw _
  ·obtain⟨k,_,rfl⟩:=dP.mp hw;exact uz _
 ·rw[if_neg h];intro w hw;rcases cP.mp hw with rfl|hw
  ·exact(RW S' _).1
  ·obtain⟨t,_,rfl⟩:=dP.mp hw;exact Vw t
theorem M5 (j:Nat){k:Nat}(hk:k<Æ.length+1):(ç mo Æ first j)[k]?=U ((ç mo Æ first j).getD k "")/\(ç mo Æ first j).getD k ""∈ç mo Æ first j:=by
 have h:k<(ç mo Æ first j).length:=by rw[ϧ];exact hk
 have e:(ç mo Æ first j)[k]?=U ((ç mo Æ first j)[k]):=by simp[h]
 rw[dG,e];exact⟨rfl,lM h⟩
theorem Sl (j:Nat){k:Nat}(hk:k<Æ.length+1):(FC mo Æ first j)[k]?=U (lm mo Æ first j k):=by
 unfold FC lm;by_cases h:j=0
 ·subst h;rw[if_pos rfl];unfold F0;cases k with
  |zero=>rw[if_pos ⟨rfl,rfl⟩];rfl
  |succ k=>
   rw[if_neg (λz=>by cases z.2),if_pos rfl,n4,eU];have e:ç mo Æ first 0=("round":Str)::jF first Æ.length:=by unfold ç;rw[if_pos rfl]
   rw[e,List.getD_cons_succ];have hl:k<(jF first Æ.length).length:=by rw[Fz];lia
   rw[dG,dY hl];rfl
 ·rw[if_neg h,if_neg<|λz=>h z.1,if_neg h];unfold xJ;rw[eU,(M5 j hk).1];rfl
theorem Ŕ (S':xD mo Æ first)(j:Nat){k:Nat}(hk:k<Æ.length+1):(lm mo Æ first j k).length<=2000/\dD.strOk (lm mo Æ first j k)=Â:=by
 have h1:=Je<|Sk S' j;have h2:=(M5 (mo:=mo) (first:=first) j hk).2;unfold lm;by_cases h:j=0/\k=0
 ·rw[if_pos h];have h3:=Je<|Sk S' 0;have h4:5<=Õ (ç mo Æ first 0):=by have:=MK (ws:=ç mo Æ first 0) (w:="round") (by unfold ç;rw[if_pos rfl];exact cK);rw[jr]at this;exact this
  exact⟨by rw[ya,Ra,jr];lia,Jp (zw _)<|RR (by decide) _⟩
 ·rw[if_neg h];refine⟨by rw[zrh<|MK h2];exact h1,?_⟩;unfold jN;refine Jp (RR ?_ _)<|ŕ S' j _ h2;split<;>decide
def wL (mo:List Str)(Æ:List<|List<|Option Int)(first:Int)(n:Nat):List D:=(eF n).map λj=>dh<|FC mo Æ first j
theorem Vx (n:Nat):wL mo Æ first (n+1)=wL mo Æ first n++[dh<|FC mo Æ first n]:=by unfold wL;rw[mh,kM];rfl
def oE (mo:List Str)(Æ:List<|List<|Option Int)(first:Int)(k:Nat):List Str:=(eF<|mo.length+1).map λj=>lm mo Æ first j k
theorem Hx {k:Nat}(hk:k<Æ.length+1):jZ mo Æ first k=Str.join " " (oE mo Æ first k):=by unfold jZ oE;congr 1;refine qR λj _=>?_;rw[dG,Sl j hk];rfl
theorem MM (S':xD mo Æ first){k:Nat}(hk:k<Æ.length+1):∀y∈oE mo Æ first k,y.length<=2000/\dD.strOk y=Â:=by intro y hy;obtain⟨j,_,rfl⟩:=dP.mp hy;exact Ŕ S' j hk
theorem MN (k:Nat):(oE mo Æ first k).length=mo.length+1:=by unfold oE;simp
theorem M6:(" ":Str).length=1/\("\n":Str).length=1:=by decide
theorem Zj (S':xD mo Æ first){k:Nat}(hk:k<Æ.length+1):oB (.str " ") (dh<|oE mo Æ first k)=U (.str<|jZ mo Æ first k):=by rw[Hx hk];refine Jk (b:=2000) (λy hy=>(MM S' hk y hy).1) ?_;have:=S'.nl;rw[MN,M6.1];lia
theorem Jt (S':xD mo Æ first){k:Nat}(hk:k<Æ.length+1):(jZ mo Æ first k).length<=20000/\dD.strOk (jZ mo Æ first k)=Â:=by rw[Hx hk];have h1:=Ml " " (oE mo Æ first k);have h2:=Jj (b:=2000) λy hy=>(MM S' hk y hy).1;have:=S'.nl;rw[MN,M6.1]at h1;rw[MN]at h2;exact⟨by lia,I0 (zw _) λy hy=>(MM S' hk y hy).2⟩
def lX (mo:List Str)(Æ:List<|List<|Option Int)(first:Int)(n:Nat):List Str:=(eF n).map<|jZ mo Æ first
theorem zri (S':xD mo Æ first):oB (.str "\n") (dh<|lX mo Æ first (Æ.length+1))=U (.str<|A6 mo Æ first):=by
 refine Jk (b:=20000) (λy hy=>?_) ?_
 ·obtain⟨k,hk,rfl⟩:=dP.mp hy;exact(Jt S'<|fM.mp hk).1
 ·have:=S'.rl;unfold lX;rw[dr,lr,M6.2];lia
theorem zrj (S':xD mo Æ first){k:Nat}(hk:k<Æ.length+1):lK [.lst<|wL mo Æ first (mo.length+1),.int k]=U (.str<|jZ mo Æ first k):=by
 have q:oK [gE<|wL mo Æ first (mo.length+1),dA k]=U (dh<|oE mo Æ first k):=by unfold dh oE;rw[fk];refine yr (λj=>dh<|FC mo Æ first j) (λj=>D.str<|lm mo Æ first j k) (eF<|mo.length+1) rfl (by have:=S'.nl;simp;lia) λj hj=>⟨[U<|dh<|FC mo Æ first j,dA k],rfl,?_⟩;show atI _ _=_;exact ME D.str (.inl rfl)<|Sl j hk
 have j:=Zj S' hk;generalize dh (oE mo Æ first k)=L1,wL mo Æ first (mo.length+1)=L2,jZ mo Æ first k=L3 at *
 clear hk S';unfold lK;walk_at "mid"
theorem Ϧ (enc:α->D){as:List α}{i:Nat}{d:D}(h:(iC 0<|as.map enc)[i]?=U d):∃x,as[i]?=U x/\d=.tup [.int i,enc x]:=by
 rw[IF enc,eU,List.getElem?_zipIdx]at h;cases e:as[i]? with
 |none=>rw[e]at h;cases h
 |some x=>rw[e]at h;cases h;exact⟨x,rfl,by simp⟩
theorem PJ (S':xD mo Æ first):nR [dh mo,.lst<|Æ.map rP,.int first]=U (.str<|A6 mo Æ first):=by
 have hn:=S'.nl;have hr:=S'.rl;have n0:=V0 (n:=Æ.length) S'.f (by lia);have l1:fV [.lst<|Æ.map rP]=U (.int Æ.length):=(vi _).trans (by rw[dr]);obtain⟨ρ',h1,x4,x5,rfl⟩:=Qf (g:=gT<|Í (gV 4)<|Í (gV 5) Ù) (b:=pD) (O:=iC 0<|mo.map D.str) (Y:=[U<|dh mo,U<|.lst<|Æ.map rP,U<|.int first,U<|.lst<|wL mo Æ first 1,G,G])
  (λpre Y=>∃x4 x5,Y=[U<|dh mo,U<|.lst<|Æ.map rP,U<|.int first,U<|.lst<|wL mo Æ first (pre.length+1),x4,x5]) ⟨G,G,rfl⟩ (by
   rintro pre d post Y he ⟨x4,x5,rfl⟩;obtain⟨x,hx,rfl⟩:=Ϧ D.str<|RB he;have hi:pre.length<mo.length:=(dM.mp hx).1;refine⟨_,_,rfl,.inl ?_,U<|.int pre.length,U<|.str x,rfl⟩;rw[ee,pA,Vx<|pre.length+1];generalize hp:pre.length=i at *;have e:FC mo Æ first (i+1)=xJ (nE x<|Æ.map λrow=>row.getD i G):=by unfold FC ç;rw[if_neg<|by lia,if_neg<|by lia,Nat.add_sub_cancel,dG,hx];rfl
   rw[e];have q:tf [U<|dh mo,U<|.lst<|Æ.map rP,U<|.int first,U<|.lst<|wL mo Æ first (i+1),U<|.int i,U<|.str x]=U (.lst<|(Æ.map λrow=>row.getD i G).map sE):=by rw[fk];refine yr rP (λrow=>sE<|row.getD i G) Æ rfl (by lia) λrow CC=>⟨[U<|rP row,U<|.int i],rfl,?_⟩;show atI _ _=_;have hl:=(S'.r row CC).1;refine ME sE (.inl rfl) ?_;rw[dG,dY<|by lia];rfl
   have tc:=WT (name:=x) (ts:=Æ.map λrow=>row.getD i G) (by have:=(S'.n x<|iq hx).2;lia) (RV S' i) (by rw[dr];lia);have hl:(wL mo Æ first (i+1)).length<16777216:=by unfold wL;rw[dr,lr];lia
   generalize dh (xJ<|nE x<|Æ.map λrow=>row.getD i G)=L1,(Æ.map λrow=>row.getD i G).map sE=L2,wL mo Æ first (i+1)=L3,dh mo=L4,Æ.map rP=L5 at *
   clear e hi hx he hp n0 l1 hn hr S';unfold pD;walk_at "mid")
 have lO:(iC 0<|mo.map D.str).length=mo.length:=by rw[IF D.str];simp
 rw[lO]at h1;have q1:sZ [U<|dh mo,U<|.lst<|Æ.map rP,U<|.int first,U<|.lst<|wL mo Æ first (mo.length+1),x4,x5]=U (dh<|lX mo Æ first (Æ.length+1)):=by
  unfold dh lX;rw[fk];refine yr (λ(t:Nat)=>D.int t) (λk=>D.str<|jZ mo Æ first k) (eF<|Æ.length+1) (RJ (n:=Æ.length+1) ?_<|by lia) (by simp;lia) λk hk=>⟨[U<|.int k,U<|.lst<|wL mo Æ first (mo.length+1)],rfl,?_⟩
  ·show(eN fV (C (M 1) Å) [U<|dh mo,U<|.lst<|Æ.map rP,U<|.int first,U<|.lst<|wL mo Æ first (mo.length+1),x4,x5]).bind (λx=>dL x<|.int 1)=_;show(fV [.lst<|Æ.map rP]).bind _=_;rw[l1];show U (D.int<|Æ.length+1)=_;rw[show((Æ.length:Int)+1)=((Æ.length+1:Nat):Int)by lia]
  ·have:=zrj S'<|fM.mp hk;generalize wL mo Æ first (mo.length+1)=K' at *
   clear hk h1 l1 lO n0 hn hr S';walk_at "mid"
 have j:=zri S';have f0:wL mo Æ first 1=[dh<|F0 first Æ.length]:=rfl
 rw[f0]at h1;unfold dh at n0 q1 h1 j;unfold dh;generalize D.lst ((F0 first Æ.length).map D.str)=c0,wL mo Æ first (mo.length+1)=L3,A6 mo Æ first=L0,mo.map D.str=L4,Æ.map rP=L5,(lX mo Æ first (Æ.length+1)).map D.str=L6 at *
 clear hn hr f0 lO S';unfold nR;walk_at "mid"
theorem Sa {x:Str}{i:Nat}:StrLaws.At x (fW 32) x.length i↔x.cps.toList[i]?=U 32:=by
 have hl:=wx x;unfold StrLaws.At Builtin.Str.subAt;have e:(x.cps.extract i (i+(fW 32).length)==(fW 32).cps)=Â↔(x.cps.toList.drop i).take 1=[32]:=by rw[beq_iff_eq,←sL,Array.toList_extract];show((x.cps.toList.extract i<|i+1))=[32]↔_;rw[List.extract_eq_drop_take,wZ]
 rw[e];have l1:(fW 32).length=1:=rfl;rw[l1];constructor
 ·rintro⟨h1,h2⟩;have h3:=congrArg (·[0]?) h2;simpa[List.getElem?_take,mV]using h3
 ·intro h;have hi:i<x.cps.toList.length:=(dM.mp h).1;refine⟨by lia,?_⟩;rw[hU hi,List.take_succ_cons,List.take_zero];rw[dY hi,Option.some.injEq]at h;rw[h]
theorem ϥ {q:Str}(hw:oz 32 w):(Txt.rpartition (q++fW 32++w)<|fW 32).2.2=w:=by
 have hl:(q++fW 32++w).cps.toList=q.cps.toList++32::w.cps.toList:=by rw[xq,xq,et];rfl
 generalize q++fW 32++w=l at *;have hn:=wx l;have Nk:StrLaws.At l (fW 32) l.length q.cps.toList.length:=Sa.mpr (by rw[hl];simp);rcases PyProof.Rows.rpartition_tail l (fW 32)with⟨_,no⟩|⟨i,e,hi,no⟩
 ·exact absurd Nk<|no _
 ·have Cy:=Sa.mp hi;have e1:i=q.cps.toList.length:=by
   rcases Bh i q.cps.toList.length with h|h|h
   ·exact absurd Nk<|no _ h
   ·exact h
   ·rw[hl,fZ<|by lia]at Cy;obtain⟨k,hk⟩:∃k,i-q.cps.toList.length=k+1:=⟨i-q.cps.toList.length-1,by lia⟩;rw[hk,n4]at Cy;exact absurd (iq Cy) hw
  rw[e,e1];apply vc;rw[StrLaws.strSub_toList,hl];have d:(q.cps.toList++32::w.cps.toList).drop (q.cps.toList.length+(fW 32).length)=w.cps.toList:=by rw[show(fW 32).length=1 from rfl,List.drop_append];simp
  rw[d];refine gG ?_;rw[←hn,hl,show(fW 32).length=1 from rfl];simp;lia
theorem Rb {c d:Nat}(h:d≠c)(k:Nat):oz c (qF d k):=λz=>by have z:c∈(hJ k d).toList:=z;rw[wF,List.mem_replicate]at z;exact h z.2.symm
theorem zrk {c d:Nat}(h:d≠c)(hw:oz c w)(k:Nat):oz c (jN d w k):=Q4 (Rb h _) hw
theorem RX {c:Nat}(hc:c<48):oz c ("round":Str):=λz=>by
 have:∀x∈("round":Str).cps.toList,48<=x:=by decide +kernel
 have:=this c z;lia
def Nt (Æ:List<|List<|Option Int):Prop:=∀row∈Æ,∀t∈row,∃m:Nat,t=U (m:Int)
theorem Ϥ {c:Nat}(hc:c<32)(hn:iZ mo)(hr:Nt Æ)(hl:∀row∈Æ,row.length=mo.length)(j:Nat)(hj:j<=mo.length):∀w∈ç mo Æ 0 j,oz c w:=by
 intro w hw;unfold ç at hw;split at hw
 ·rcases cP.mp hw with rfl|hw
  ·exact RX (by lia)
  ·obtain⟨k,_,rfl⟩:=dP.mp hw;rw[sM];exact qj (by lia)
 ·rename_i h0;rcases cP.mp hw with rfl|hw
  ·have hx:j-1<mo.length:=by lia
   rw[dG,dY hx,sj];exact qm (hn.ok _<|lM hx) (by lia)
  ·obtain⟨t,ht,rfl⟩:=dP.mp hw;obtain⟨row,CC,rfl⟩:=dP.mp ht;have hx:j-1<row.length:=by rw[hl row CC];lia
   obtain⟨m,e⟩:=hr row CC (row.getD (j-1) G) (by rw[dG,dY hx,sj];exact lM hx);rw[e];exact qj (n:=m) (by lia)
theorem zrl {c:Nat}(hc:c<32)(hn:iZ mo)(hr:Nt Æ)(hl:∀row∈Æ,row.length=mo.length)(j:Nat)(hj:j<=mo.length){k:Nat}(hk:k<Æ.length+1):oz c (lm mo Æ 0 j k):=by
 unfold lm;split
 ·exact Q4 (RX<|by lia) (Rb (by lia) _)
 ·refine zrk ?_ (Ϥ hc hn hr hl j hj _ (M5 (first:=0) j hk).2) _;split<;>lia
theorem zrm {c:Nat}(hc:c<32)(hn:iZ mo)(hr:Nt Æ)(hl:∀row∈Æ,row.length=mo.length){k:Nat}(hk:k<Æ.length+1):oz c (jZ mo Æ 0 k):=by rw[Hx hk,ug];refine P4 (by lia) λw hw=>?_;obtain⟨j,hj,rfl⟩:=dP.mp hw;exact zrl hc hn hr hl j (by have:=fM.mp hj;lia) hk
theorem PL (S':xD mo Æ 0)(hn:iZ mo)(hr:Nt Æ):nL (.str<|A6 mo Æ 0) (.str "\n")=U (dh<|lX mo Æ 0<|Æ.length+1):=by
 unfold A6;rw[Vp];refine Q3 (b:=20000) (by simp) (λw hw=>?_) (λw hw=>?_) (by have:=S'.rl;simp;lia)
 ·obtain⟨k,hk,rfl⟩:=dP.mp hw;exact zrm (by decide) hn hr (λrow h=>(S'.r row h).1)<|fM.mp hk
 ·obtain⟨k,hk,rfl⟩:=dP.mp hw;exact(Jt S'<|fM.mp hk).1
theorem Qp (c k:Nat):(qF c k).cps.toList=cY k c:=wF
theorem zrn (p0 p1 w:Str)(W:Nat):∃q,Str.join (fW 32) [p0,p1,jN 32 w W]=q++fW 32++w:=by
 have e:(Str.join (fW 32) [p0,p1,jN 32 w W]).cps.toList=p0.cps.toList++32::(p1.cps.toList++32::(cY (W-w.length) 32++w.cps.toList)):=by rw[join_list,join_list];have j1:Str.join (fW 32) [jN 32 w W]=jN 32 w W:=rfl;rw[j1];unfold jN;rw[xq,Qp]
 cases h:W-w.length with
 |zero=>refine⟨p0++fW 32++p1,vc ?_⟩;rw[e,h];simp only[xq,et];rfl
 |succ m=>refine⟨p0++fW 32++p1++fW 32++qF 32 m,vc ?_⟩;rw[e,h,List.replicate_succ'];simp only[xq,Qp,et];rfl
theorem Ŭ {p q:BF}(h1:p Y=U Â)(h2:q Y=U Â):eB (Ü p q) Y=U (.bl Â):=by unfold eB Ü;rw[h1];show dX (if Â=Â then q Y else U Ã) _=_;rw[if_pos rfl,h2];rfl
section
variable {x y:Str}{n v:Nat}
theorem Zk (hn:Æ.length=n+1)(hv:(Æ.map λrow=>row.getD 1 G)[n]?=U (U (v:Int))):∃q,jZ [x,y] Æ 0 (n+1)=q++fW 32++eA (v:Int):=by
 rw[Hx<|by lia,ug];have e:lm [x,y] Æ 0 2 (n+1)=jN 32 (eA v) (Õ<|ç [x,y] Æ 0 2):=by
  have g:(ç [x,y] Æ 0 2).getD (n+1) ""=eA (v:Int):=by show(y::((Æ.map λrow=>row.getD 1 G).map wT)).getD (n+1) ""=_;rw[dG,n4,eU,hv];rfl
  unfold lm;rw[if_neg<|by lia,if_neg<|by lia,g]
 have l:oE [x,y] Æ 0 (n+1)=[lm [x,y] Æ 0 0<|n+1,lm [x,y] Æ 0 1<|n+1,lm [x,y] Æ 0 2<|n+1]:=rfl;rw[l,e];exact zrn _ _ _ _
theorem Rr (S':xD [x,y] Æ 0)(hN:iZ [x,y])(hr:Nt Æ)(hn:Æ.length=n+1)(hv:(Æ.map λrow=>row.getD 1 G)[n]?=U (U (v:Int))):iU [.str<|A6 [x,y] Æ 0,.int ((n+1:Nat):Int),.str<|eA v]=U (.bl Â):=by
 obtain⟨q,hq⟩:=Zk (x:=x) (y:=y) hn hv;have sp:=PL S' hN hr;have hl:(jZ [x,y] Æ 0<|n+1).length<=16777216:=by have:=(Jt S' (k:=n+1)<|by lia).1;lia
 have at1:atI ((lX [x,y] Æ 0<|Æ.length+1).map D.str) (-1)=U (.str<|jZ [x,y] Æ 0<|n+1):=by have:=Mp (xs:=(lX [x,y] Æ 0<|Æ.length+1).map D.str) (n:=Æ.length) (b:=0) (by simp[lX]) (by lia);rw[show(-1:Int) = -1-((0:Nat):Int)from rfl,this];simp[lX,hn]
 have ln:fV [dh<|lX [x,y] Æ 0<|Æ.length+1]=dA ((n+2:Nat):Int):=(vi _).trans (by simp[lX,hn];lia);have rp:t8 (.str<|jZ [x,y] Æ 0<|n+1) (.str " ")=U (.tup [.str (Txt.rpartition (jZ [x,y] Æ 0<|n+1) " ").1,.str (Txt.rpartition (jZ [x,y] Æ 0<|n+1) " ").2.1,.str<|eA v]):=by have t:=ϥ (q:=q) (w:=eA v) (qj<|by decide);rw[←hq,←ug]at t;show(if _ then _ else _)=_;rw[if_pos ⟨by decide,hl⟩,t]
 have c1:iI Ã (.int ((n+2:Nat):Int)) (.int<|((n+1:Nat):Int)+1)=U (.bl Â):=(j0 _ _).trans (by simp;lia);have c2:iI Ã (.str<|eA v) (.str<|eA v)=U (.bl Â):=(xt (uz _)<|uz _).trans (by simp);unfold iU Ï;refine zn (qU (by rfl) rfl)<|zn (zx<|fO rfl rfl sp) ?_;refine(congrArg (dX · _)<|jq<|Ŭ (iQ<|fO (a:=.int ((n+2:Nat):Int)) (b:=.int<|((n+1:Nat):Int)+1) ?_ rfl c1)<|iQ<|fO (a:=.str<|eA v) ?_ rfl c2).trans rfl
 ·exact ln
 ·exact fO (fO (op:=t8) (fO (op:=eG) rfl rfl at1) rfl rp) rfl rfl
end
theorem eD {f:EF}{d:D}(h1:f Y=U d)(h2:fs Y=U O):C f fs Y=U (d::O):=by unfold C;rw[h1,h2];rfl
theorem rJ {op:List D->Option D}{r:Option D}(h1:fs Y=U O)(h2:op O=r):eN op fs Y=r:=by unfold eN;rw[h1];exact h2
noncomputable def uX (o p n:Nat):List (List<|Option Int):=(eF n).map λi=>[U ((i*(o+p)+p:Nat):Int),U (((i+1)*(o+p):Nat):Int)]
theorem Vy (o p n:Nat):lY o p n=(uX o p n).map rP:=by unfold lY uX;rw[fk];rfl
theorem Rc {m:Nat}(h:m<=10000000000000):DX (U (m:Int)):=λi e=>by cases e;exact(Si (n:=64) (w:=10000000000000) (by lia) (by lia)<|by decide).mono (by decide)
theorem FU {x y:Str}(hN:iZ [x,y])(hr:∀row∈Æ,∃a b:Nat,row=[U (a:Int),U (b:Int)]/\a<=10000000000000/\b<=10000000000000)(hl:Æ.length<=400):xD [x,y] Æ 0/\Nt Æ:=by
 refine⟨⟨λz hz=>⟨HD<|hN.ok z hz,by have:=wk<|hN.ok z hz;lia⟩,by simp,λrow h=>?_,hl,by lia⟩,λrow h t ht=>?_⟩
 ·obtain⟨a,b,rfl,h1,h2⟩:=hr row h;refine⟨rfl,λt ht=>?_⟩;simp only[cP,dm,or_false]at ht;rcases ht with rfl|rfl
  ·exact Rc h1
  ·exact Rc h2
 ·obtain⟨a,b,rfl,h1,h2⟩:=hr row h;simp only[cP,dm,or_false]at ht;rcases ht with rfl|rfl
  ·exact⟨a,rfl⟩
  ·exact⟨b,rfl⟩
section
variable {x y:Str}{o p n:Nat}{k:Int}
theorem Rt (hN:iZ [x,y])(ho:o<=1000000000)(hp:p<=1000000000)(hn:n<=400):xD [x,y] (uX o p n) 0/\Nt (uX o p n):=by refine FU hN (λrow h=>?_) (by simp[uX];lia);obtain⟨i,hi,rfl⟩:=dP.mp h;have hi:=fM.mp hi;have m1:i*(o+p)<=400*2000000000:=vC (by lia) (by lia);exact⟨_,_,rfl,by lia,by rw[qH];lia⟩
theorem ū (hN:iZ [x,y])(ho:o<=1000000000)(hp:p<=1000000000)(hn:n<=400):pZ [dk (N2 x y o p) tl pt k,dh ["run",eA n]]=U (.tup [.str<|A6 [x,y] (uX o p n) 0,dk (N2 x y o p) tl pt k]):=by have ti:jP [.str<|eA n]=dA (n:Int):=qk (by lia);have al:=PJ (Rt hN ho hp hn).1;rw[←Vy]at al;have ru:(λY:L3.Env=>((C (e1 (dH [5,6] "net")<|M 0)<|C (eN jP<|C (L eG (M 1)<|eC<|.int 1) Å) Å) Y).bind λO=>vI<|O++[.non,.non]) [U<|dk (N2 x y o p) tl pt k,U<|dh ["run",eA n]]=gE (lY o p n):=zy (eD rfl<|eD (rJ rfl ti) rfl)<|Nc hn;unfold pZ Ý;exact u2 (zy (eD rfl<|eD ru rfl) al) rfl
abbrev T2 (x y:Str)(o p b t:Nat):D:=.obj 5 ["net","times","beat"] [N2 x y o p,.lst [.int t,.int ((t+o:Nat):Int)],.int b]
theorem MO {b t:Nat}:ko 5 "slack" eR (T2 x y o p b t) [.int 0]=dA 0:=by have m:jY (.int b) (.int 0)=dA (b*0):=qy (by decide) (by decide);show eR [T2 x y o p b t,.int 0]=_;unfold eR Ï;refine zn (zx (d:=gw ⟨.wait,0,1,(o:Int),0⟩) rfl) ?_;refine(congrArg (dX · _)<|jq<|fO (fO (fO (a:=.int ((t+o:Nat):Int)) rfl (fO (op:=jY) rfl rfl m) rfl) (b:=.int t) rfl rfl) (b:=.int o) rfl rfl).trans ?_;show U (D.int<|((t+o:Nat):Int)+(b:Int)*0-t-o)=_;rw[show((t+o:Nat):Int)+(b:Int)*0-t-o=0 by lia]
theorem MP {b t s:Nat}(h:b=o+p+s):ko 5 "slack" eR (T2 x y o p b t) [.int 1]=dA (s:Int):=by have m:jY (.int b) (.int 1)=dA (b*1):=qy (by decide) (by decide);show eR [T2 x y o p b t,.int 1]=_;unfold eR Ï;refine zn (zx (d:=gw ⟨.back,1,0,(p:Int),1⟩) rfl) ?_;refine(congrArg (dX · _)<|jq<|fO (fO (fO (a:=.int t) rfl (fO (op:=jY) rfl rfl m) rfl) (b:=.int ((t+o:Nat):Int)) rfl rfl) (b:=.int p) rfl rfl).trans ?_;show U (D.int<|(t:Int)+b*1-((t+o:Nat):Int)-(p:Int))=_;rw[show(t:Int)+(b:Int)*1-((t+o:Nat):Int)-(p:Int)=(s:Int)by lia]
end
section
variable {x y:Str}{o p n:Nat}{k:Int}
theorem ϣ {b t s:Nat}(h:b=o+p+s):iJ 5 [N2 x y o p,.lst [.int t,.int ((t+o:Nat):Int)],.int b]=U (T2 x y o p b t):=by
 have s0:=MO (x:=x) (y:=y) (o:=o) (p:=p) (b:=b) (t:=t);have s1:=MP (x:=x) (y:=y) (o:=o) (p:=p) (t:=t) h;have b1:∀(i:Int) (v:Nat) (y4:Option D),ko 5 "slack" eR (T2 x y o p b t) [.int i]=dA v->jU [U<|T2 x y o p b t,U<|N2 x y o p,U<|.lst [.int t,.int ((t+o:Nat):Int)],dA b,dA i]=U (.nx [U<|T2 x y o p b t,U<|N2 x y o p,U<|.lst [.int t,.int ((t+o:Nat):Int)],dA b,dA i]):=by intro i v _ h;unfold jU;refine qU (iQ<|fO (a:=.int v) ?_ rfl<|(ua _ _).trans<|by rw[decide_eq_false<|by lia]) rfl;exact vz rfl h
 have fo:Ò (λY=>((C (eN fV<|C (e1 (dH [4] "arrows")<|M 1) Å) Å) Y).bind lA) (gV 4) jU [U<|T2 x y o p b t,U<|N2 x y o p,U<|.lst [.int t,.int ((t+o:Nat):Int)],dA b,G]=U (.nx [U<|T2 x y o p b t,U<|N2 x y o p,U<|.lst [.int t,.int ((t+o:Nat):Int)],dA b,dA 1]) :=
  (v5 (O:=[.int 0,.int 1])<|by kernel_rfl).trans (wn rfl (b1 0 0 G s0)<|wn rfl (b1 1 s G s1) rfl)
 unfold iJ CH;refine zn (ρ':=[U<|.obj 5 ["net"] [N2 x y o p],U<|N2 x y o p,U<|.lst [.int t,.int ((t+o:Nat):Int)],dA b,G]) (by kernel_rfl) ?_;refine zn (ρ':=[U<|.obj 5 ["net","times"] [N2 x y o p,.lst [.int t,.int ((t+o:Nat):Int)]],U<|N2 x y o p,U<|.lst [.int t,.int ((t+o:Nat):Int)],dA b,G]) (by kernel_rfl) ?_;refine zn (ρ':=[U<|T2 x y o p b t,U<|N2 x y o p,U<|.lst [.int t,.int ((t+o:Nat):Int)],dA b,G]) (by kernel_rfl) ?_;rw[fo];rfl
theorem Ϣ {b t s:Nat}(h:b=o+p+s)(hb:b<=1000000000000)(ht:t+o<=1000000000000):kQ [dk (N2 x y o p) tl pt k,dh ["plan",eA b,eA t,eA ((t+o:Nat):Int)]]=U (.tup [.str "ok",dk (N2 x y o p) (T2 x y o p b t) pt k]):=by
 have q:nK [U<|dk (N2 x y o p) tl pt k,U<|dh ["plan",eA b,eA t,eA ((t+o:Nat):Int)]]=U (.lst [.int t,.int ((t+o:Nat):Int)]):=by
  refine yr (λ(x:Nat)=>D.str<|eA x) (λx=>.int x) [t,t+o] ?_ (by simp) λz hz=>⟨_,rfl,rJ rfl<|qk ?_⟩
  ·show dX (U<|D.lst<|ã _ (U ((2:Nat):Int)) G) FW=_;rw[wt];rfl
  ·simp only[cP,dm,or_false]at hz;lia
 have bi:jP [.str<|eA b]=dA (b:Int):=qk (by lia);have Uw:(cl (iJ 5)<|C (e1 (dH [5,6] "net")<|M 0)<|C nK<|C (eN jP<|C (L eG (M 1)<|eC<|.int 1) Å) Å) [U<|dk (N2 x y o p) tl pt k,U<|dh ["plan",eA b,eA t,eA ((t+o:Nat):Int)]]=U (T2 x y o p b t):=zy (m:=iJ 5) (eD rfl<|eD q<|eD (rJ rfl bi) rfl)<|ϣ h;unfold kQ Ý;exact xr (LO Uw)<|u2 rfl rfl
theorem Ū {w:Nat}(hN:iZ [x,y])(hw:w<=400)(ha:a<=1000000000000)(he:es.length<=1000):ou [dk (N2 x y o p) tl (.cel es) k,dh ["put",x,eA w,eA a]]=U (.tup [.str "ok",dk (N2 x y o p) tl (.cel<|es++[.tup [.int 0,.int w,.int a]]) k]):=by
 have g:fD [dk (N2 x y o p) tl (.cel es) k,.str x]=dA 0:=by have:=II hN.nd (i:=0) (by simp);show fD [dk (N2 x y o p) tl (.cel es) k,.str<|mX [x,y] 0]=_;unfold fD Ï;rw[jq<|fO (op:=xM) (a:=dh [x,y]) (b:=.str<|mX [x,y] 0) rfl rfl this];rfl
 have wi:jP [.str<|eA w]=dA (w:Int):=qk (by lia);have ai:jP [.str<|eA a]=dA (a:Int):=qk (by lia);have el:(λY:L3.Env=>((C (cl fD<|C (M 0)<|C (L eG (M 1)<|eC<|.int 1) Å)<|C (eN jP<|C (L eG (M 1)<|eC<|.int 2) Å)<|C (eN jP<|C (L eG (M 1)<|eC<|.int 3) Å) Å) Y).bind λO=>U<|D.tup O) [U<|dk (N2 x y o p) tl (.cel es) k,U<|dh ["put",x,eA w,eA a]]=U (.tup [.int 0,.int w,.int a]) :=
  vz (eD (zy rfl g)<|eD (rJ rfl wi)<|eD (rJ rfl ai) rfl) rfl
 have ap:An 0 [6] (λY:L3.Env=>((C (cl fD<|C (M 0)<|C (L eG (M 1)<|eC<|.int 1) Å)<|C (eN jP<|C (L eG (M 1)<|eC<|.int 2) Å)<|C (eN jP<|C (L eG (M 1)<|eC<|.int 3) Å) Å) Y).bind λO=>U<|D.tup O) [U<|dk (N2 x y o p) tl (.cel es) k,U<|dh ["put",x,eA w,eA a]]=U (.nx [U<|dk (N2 x y o p) tl (.cel<|es++[.tup [.int 0,.int w,.int a]]) k,U<|dh ["put",x,eA w,eA a]]):=by unfold An;rw[show M 0 [U<|dk (N2 x y o p) tl (.cel es) k,U<|dh ["put",x,eA w,eA a]]=U (dk (N2 x y o p) tl (.cel es) k)from rfl,el];exact if_pos ⟨rfl,by lia⟩
 unfold ou Ý;exact xr ap<|u2 rfl rfl
end
variable {lk:Bool}
noncomputable def J' (i j:Int):Int:=if j > i then j else i
theorem GH {r:D}{b st v s pu:Int}(hb:atI R (-1-b)=U r)(hs:eG r (.int st)=dA v):fG [.lst R,.lst [.tup [.int st,.int b,.int s]],.int pu]=dA (J' (J' 0 pu)<|v-s):=by
 have m1:∀i j:Int,vJ [.int i,.int j]=dA (J' i j):=λi j=>uc i j;have b1:iu [gE R,U<|.lst [.tup [.int st,.int b,.int s]],dA pu,dA<|J' 0 pu,dA st,dA b,dA s]=U (.nx [gE R,U<|.lst [.tup [.int st,.int b,.int s]],dA pu,dA<|J' (J' 0 pu)<|v-s,dA st,dA b,dA s]):=by unfold iu;exact zx<|rJ (eD rfl<|eD (fO (op:=kx) (fO (op:=eG) (fO (op:=eG) (a:=.lst R) (b:=.int<|-1-b) rfl rfl hb) rfl hs) rfl rfl) rfl)<|m1 _ _
 unfold fG Ï;refine zn (zx<|rJ (eD rfl<|eD rfl rfl)<|m1 0 pu) ?_;exact zn ((v5 rfl).trans<|wn rfl b1 rfl) rfl
theorem K2 {pu:Int}:fG [.lst R,.lst [],.int pu]=dA (J' 0 pu):=by unfold fG Ï;exact zn (zx<|rJ (eD rfl<|eD rfl rfl)<|uc 0 pu)<|zn ((v5 rfl).trans rfl) rfl
noncomputable abbrev K4 (lk:Bool):List D:=if lk then[.tup [.int 0,.int 0,.int 0]]else[]
abbrev L5 (lk:Bool)(s:Nat):D:=.lst [.lst [.tup [.int 1,.int 1,.int s]],.lst<|K4 lk]
def gv (lk:Bool)(f:Int):Int:=if lk then J' 0 (f-0)else 0
theorem ϡ {s:Nat}{a b k P:Int}{V':D}{y3 y11 y12:Option D}(hL:K'.length<=1000)(g0:(lN V'<|.tup [.int 0,.int k]).bind (λr=>U<|r.getD<|.int 0)=dA P)(g1:(lN V'<|.tup [.int 1,.int k]).bind (λr=>U<|r.getD<|.int 0)=dA 0):∃Fp Fs,pE [y0,y1,y2,y3,dA 2,U<|L5 lk s,U V',U<|.lst [.int 0,.int 1],dA 1,gE<|K'++[.lst [.int a,.int b]],dA k,y11,y12] =
  U (.nx [y0,y1,y2,y3,dA 2,U<|L5 lk s,U V',U<|.lst [.int 0,.int 1],dA 1,gE<|K'++[.lst [.int a,.int b],.lst [.int<|J' (J' 0 P)<|b-s,.int<|gv lk<|J' (J' 0 P)<|b-s]],dA k,Fp,Fs]):=by
 refine⟨U<|.int 1,dA 0,?_⟩;unfold pE;have e:=JA (i:=9) (f:=(L wC (λY=>((C (eC<|.int 0) Å) Y).bind λO=>(gE O))<|M 4)) (Y:=[y0,y1,y2,y3,dA 2,U<|L5 lk s,U V',U<|.lst [.int 0,.int 1],dA 1,gE<|K'++[.lst [.int a,.int b]],dA k,y11,y12]) (K':=K'++[.lst [.int a,.int b]]) (d:=.lst [.int 0,.int 0]) rfl (by kernel_rfl) (by simp;lia);rw[et]at e;refine qo e ?_;generalize hF:J' (J' 0 P) (b-s)=F;refine(v5 rfl).trans<|wn (ρ1:=[y0,y1,y2,y3,dA 2,U<|L5 lk s,U V',U<|.lst [.int 0,.int 1],dA 1,gE<|K'++[.lst [.int a,.int b],.lst [.int 0,.int 0]],dA k,dA 0,y12]) rfl (qo (zx (d:=.int P) g0)<|Jd (z:=0) (d:=.int F) (ds':=[.int F,.int 0]) (zy (eD rfl<|eD rfl<|eD rfl rfl) ?_) rfl rfl rfl) ?_
 ·rw[←hF];exact GH (b:=1) (st:=1) (v:=b) Js.2 rfl
 refine wn (ρ1:=[y0,y1,y2,y3,dA 2,U<|L5 lk s,U V',U<|.lst [.int 0,.int 1],dA 1,gE<|K'++[.lst [.int a,.int b],.lst [.int F,.int 0]],dA k,dA 1,dA P]) rfl (qo (zx (d:=.int 0) g1)<|Jd (z:=1) (d:=.int<|gv lk F) (ds':=[.int F,.int<|gv lk F]) (zy (O:=[.lst<|K'++[.lst [.int a,.int b],.lst [.int F,.int 0]],.lst<|K4 lk,.int 0]) rfl ?_) rfl rfl rfl) rfl;cases lk
 ·exact K2
 ·exact GH (b:=0) (st:=0) (v:=F) (s:=0) (pu:=0) Js.1 rfl
variable {lo wo:D}
theorem Ga {i:Nat}{u:SF}{d:D}(h:u Y=U (.rt d)):ù i u Y=U (.rt d):=by unfold ù;rw[h];rfl
section
variable {x y:Str}{o p b t s:Nat}
theorem Sb {i:Int}{going links d a:D}{y5:Option D}{ls:List D}{st bh sl:Int}(h:ñ Â (.int i) lo=U (.bl Â))(ha:eG (.lst<|(A2 o p).map gw) (.int i)=U a)(f1:dH [0,1,2,3] "start" a=dA st)(f2:dH [0,1,2,3] "behind" a=dA bh)(hs:ko 5 "slack" eR (T2 x y o p b t) [.int i]=dA sl)(hl:ls.length<=1000) :
  mE [U<|T2 x y o p b t,U going,U lo,gE ls,dA i,y5]=U (.nx [U<|T2 x y o p b t,U going,U lo,gE<|ls++[.tup [.int st,.int bh,.int sl]],dA i,U a]):=by
 unfold mE;refine xN (iQ<|fO rfl rfl h)<|qo (zx<|fO rfl rfl ha) ?_;refine JA (K':=ls) rfl (vz (eD (vz rfl f1)<|eD (vz rfl f2)<|eD ?_ rfl) rfl) (by lia);exact vz rfl hs
theorem Vz (h:b=o+p+s)(HY:ñ Â (.int 1) lo=U (.bl Â)):gC [T2 x y o p b t,.int 0,lo]=U (.lst [.tup [.int 1,.int 1,.int s]]):=by have s1:=MP (x:=x) (y:=y) (o:=o) (p:=p) (t:=t) h;unfold gC Ï;refine zn (zx (d:=.lst []) rfl) (zn ((v5 (O:=[.int 1])<|by kernel_rfl).trans<|wn rfl (Sb (ls:=[]) (going:=.int 0) (links:=.non) (d:=.non) HY Sf rfl rfl s1<|by simp) rfl) rfl)
theorem VA (HY:ñ Â (.int 0) lo=U (.bl Â)):gC [T2 x y o p b t,.int 1,lo]=U (.lst [.tup [.int 0,.int 0,.int 0]]):=by have s0:=MO (x:=x) (y:=y) (o:=o) (p:=p) (b:=b) (t:=t);unfold gC Ï;refine zn (zx (d:=.lst []) rfl) (zn ((v5 (O:=[.int 0])<|by kernel_rfl).trans<|wn rfl (Sb (ls:=[]) (going:=.int 1) (links:=.non) (d:=.non) HY Se rfl rfl s0<|by simp) rfl) rfl)
theorem VB:gC [T2 x y o p b t,.int 1,.lst [.int 0]]=U (.lst []):=by kernel_rfl
class inductive WO:D->Bool->Prop
 |non:WO .non Â
 |nil:WO (.lst []) Â
 |one:WO (.lst [.int 0]) Ã
theorem VC (h:b=o+p+s)(hw:WO wo lk){r:List (Option D)}:xT (U (T2 x y o p b t)::y1::y2::U wo::(dA 2)::r)=U (L5 lk s):=by
 have e:∀g:Int,∃lo,((cl gC<|C (M 1)<|C (M 0)<|C (î (tb<|L (qM Ã) (M 2)<|eC .non) (λY=>(Å Y).bind λO=>(gE O))<|M 2) Å) [dA g,U<|T2 x y o p b t,U wo]=gC [T2 x y o p b t,.int g,lo])/\(lo=.lst []/\lk=Â\/lo=.lst [.int 0]/\lk=Ã):=by
  intro g;cases hw with
  |non=>exact⟨.lst [],rfl,.inl ⟨rfl,rfl⟩⟩
  |nil=>exact⟨.lst [],rfl,.inl ⟨rfl,rfl⟩⟩
  |one=>exact⟨.lst [.int 0],rfl,.inr ⟨rfl,rfl⟩⟩
 refine yr (λ(i:Nat)=>D.int i) (λi=>if i=0 then .lst [.tup [.int 1,.int 1,.int s]]else .lst (K4 lk)) [0,1] (by kernel_rfl) (by simp) λi hi=>⟨_,rfl,?_⟩;obtain⟨lo,e1,L⟩:=e (i:Int);refine e1.trans ?_;simp only[cP,dm,or_false]at hi;rcases hi with rfl|rfl
 ·refine Vz h ?_;rcases L with⟨rfl,_⟩|⟨rfl,_⟩<;>rfl
 ·rcases L with⟨rfl,rfl⟩|⟨rfl,rfl⟩
  ·exact VA rfl
  ·exact VB
end
def pv (lk:Bool)(s:Nat)(P:Nat->Int):Nat->Int
 |0=>0
 |k+1=>gv lk<|J' (J' 0<|P k)<|pv lk s P k-s
def zJ (lk:Bool)(s:Nat)(P:Nat->Int)(k:Nat):D:=.lst [.int<|J' (J' 0<|P k)<|pv lk s P k-s,.int<|pv lk s P<|k+1]
def kj (lk:Bool)(s:Nat)(P:Nat->Int)(n:Nat):List D:=(eF n).map<|zJ lk s P
theorem Yy (lk:Bool)(s:Nat)(P:Nat->Int)(n:Nat):kj lk s P (n+1)=kj lk s P n++[zJ lk s P n]:=by simp[kj,mh]
section
variable {x y:Str}{o p b t s n:Nat}
theorem Ru (h:b=o+p+s){Fj V':D}(hw:WO wo lk){P:Nat->Int}(hn:n<=401)(hG:gY [Fj]=U V')(g0:∀k,k<n->(lN V'<|.tup [.int 0,.int k]).bind (λr=>U<|r.getD<|.int 0)=dA (P k))(g1:∀k,k<n->(lN V'<|.tup [.int 1,.int k]).bind (λr=>U<|r.getD<|.int 0)=dA 0) :
  oq [T2 x y o p b t,.int n,Fj,wo]=gE (kj lk s P n):=by
 obtain⟨ρ',h1,K',a,wU,Fp,Fs,e1,L,rfl⟩:=uq (g:=gV 10) (b:=pE) (lo:=0) (n:=n) (Y:=[U<|T2 x y o p b t,dA n,U Fj,U wo,dA 2,U<|L5 lk s,U V',U<|.lst [.int 0,.int 1],dA 1,U<|.lst [.lst [.int 0,.int 0]],G,G,G])
  (λj Y=>∃(K':List D) (a:Int) (wU Fp Fs:Option D),K'.length=j/\K'++[.lst [.int a,.int<|pv lk s P j]]=.lst [.int 0,.int 0]::kj lk s P j/\Y=[U<|T2 x y o p b t,dA n,U Fj,U wo,dA 2,U<|L5 lk s,U V',U<|.lst [.int 0,.int 1],dA 1,gE<|K'++[.lst [.int a,.int<|pv lk s P j]],wU,Fp,Fs])
  ⟨[],0,G,G,G,rfl,by simp[kj,pv],by simp[pv]⟩ (by
   rintro j Y hj ⟨K',a,wU,Fp,Fs,e1,L,rfl⟩;have c0:=g0 j hj;have c1:=g1 j hj;rw[←sM (j:Int)]at c0 c1;obtain⟨Vh,Vi,hh⟩:=ϡ (lk:=lk) (s:=s) (K':=K') (a:=a) (b:=pv lk s P j) (V':=V') (y0:=some<|T2 x y o p b t) (y1:=dA n) (y2:=some Fj) (y3:=some wo) (y11:=Fp) (y12:=Fs) (by lia) c0 c1;refine⟨_,_,rfl,.inl hh,K'++[.lst [.int a,.int<|pv lk s P j]],J' (J' 0<|P j)<|pv lk s P j-s,dA<|0+j,Vh,Vi,by simp[e1],?_,?_⟩
   ·rw[L,Yy];rfl
   ·rw[et]
    rfl)
 have r1:lA [.int n]=U (qG 0 n):=jg (by lia) (by lia);have fo:=(v5 (fi:=λY=>((C (M 1) Å) Y).bind lA) (g:=gV 10) (b:=pE) (Y:=[U<|T2 x y o p b t,dA n,U Fj,U wo,dA 2,U<|L5 lk s,U V',U<|.lst [.int 0,.int 1],dA 1,U<|.lst [.lst [.int 0,.int 0]],G,G,G])<|vz rfl r1).trans h1;have sl:gP (.lst (.lst [.int 0,.int 0]::kj lk s P n)) (U 1) G=gE (kj lk s P n):=by show U (D.lst<|ã _ (U ((1:Nat):Int)) G)=_;rw[wt];rfl
 rw[L]at fo;unfold oq Ï;refine zn (zx (d:=.int 2) rfl) (zn (zx<|VC h hw)<|zn (zx<|zy rfl hG)<|zn (zx (d:=.lst [.int 0,.int 1])<|by kernel_rfl)<|zn (zx (d:=.int 1)<|by kernel_rfl)<|zn (zx (d:=.lst [.lst [.int 0,.int 0]])<|by kernel_rfl)<|zn fo ?_);refine(congrArg (dX · _)<|Ga<|jq (f:=λY=>((M 9) Y).bind λd=>((à<|M 8) Y).bind λl=>(ð Y).bind λh=>gP d l h) ?_).trans rfl;exact sl
end
noncomputable def Pt (w a:Nat)(k:Nat):Int:=if k=w then(a:Int)else 0
theorem SG {a:Int}(h:0<=a):J' 0 a=a:=by unfold J';split<;>lia
theorem M7 {s w:Nat}(h:s=0\/a=0)(k:Nat):pv Â s (Pt w a) k=((if w<k then a else 0:Nat):Int)/\J' (J' 0<|Pt w a k) (pv Â s (Pt w a) k-s)=((if w<=k then a else 0:Nat):Int):=by
 have st:∀k:Nat,pv Â s (Pt w a) k=((if w<k then a else 0:Nat):Int)->J' (J' 0<|Pt w a k) (pv Â s (Pt w a) k-s)=((if w<=k then a else 0:Nat):Int):=by
  intro k e;rw[e];unfold Pt;rcases Bh k w with hk|hk|hk
  ·rw[if_neg<|by lia,if_neg<|by lia,if_neg<|by lia];unfold J';rcases h with h|h<;>split<;>split at * <;> lia
  ·rw[if_pos hk,if_neg<|by lia,if_pos<|by lia];unfold J';rcases h with h|h<;>split<;>split at * <;> lia
  ·rw[if_neg<|by lia,if_pos<|by lia,if_pos<|by lia];unfold J';rcases h with h|h<;>split<;>split at * <;> lia
 have main:pv Â s (Pt w a) k=((if w<k then a else 0:Nat):Int):=by
  induction k with
  |zero=>rw[if_neg<|by lia];rfl
  |succ k ih=>show gv Â (J' (J' 0<|Pt w a k)<|pv Â s (Pt w a) k-s)=_;rw[st k ih];show J' 0 (_-0)=_;rw[Int.sub_zero,SG<|by lia];congr 2;exact propext Cg.symm
 exact⟨main,st k main⟩
noncomputable def va (w a k:Nat):Nat:=if w<=k then a else 0
def oC (w a n:Nat):List (List<|Option Int):=(eF n).map λk=>[U (va w a k:Int),U (va w a k:Int)]
theorem Qq {s w:Nat}(h:s=0\/a=0)(k:Nat):zJ Â s (Pt w a) k=.lst [.int (va w a k:Int),.int (va w a k:Int)]:=by unfold zJ va;rw[(M7 h k).2,(M7 h<|k+1).1];simp only[Cg]
theorem Ϡ {s w:Nat}(h:s=0\/a=0)(n:Nat):kj Â s (Pt w a) n=(oC w a n).map rP:=by unfold kj oC;rw[fk];exact qR λk _=>Qq h k
theorem ũ (w a:Nat):gY [.lst [.tup [.int 0,.int w,.int a]]]=U (.dT [[.inl 0,.inl (w:Int)]] [.int a]):=by kernel_rfl
theorem Ũ {w k:Nat}:(lN (.dT [[.inl 0,.inl (w:Int)]] [.int a])<|.tup [.int 0,.int k]).bind (λr=>U<|r.getD<|.int 0)=dA (Pt w a k):=by
 show U ((qD [[Sum.inl 0,Sum.inl (w:Int)]] [D.int a] ([.inl 0,.inl (k:Int)]:List kL)).getD<|.int 0)=_;unfold qD Pt;by_cases e:k=w
 ·subst e;simp
 ·have:¬(w:Int)=k:=by lia
  simp[e,this]
theorem zv0 {w k:Nat}:(lN (.dT [[.inl 0,.inl (w:Int)]] [.int a])<|.tup [.int 1,.int k]).bind (λr=>U<|r.getD<|.int 0)=dA 0:=by show U ((qD [[Sum.inl 0,Sum.inl (w:Int)]] [D.int a] ([.inl 1,.inl (k:Int)]:List kL)).getD<|.int 0)=_;unfold qD;simp
class inductive PT (w a:Nat):List D->Prop
 |nil:a=0->PT w a []
 |one:PT w a [.tup [.int 0,.int w,.int a]]
section
variable {x y:Str}{o p b t s n w:Nat}{k:Int}
theorem M8 (h:b=o+p+s)(hw:WO wo lk)(hn:n<=401)(he:PT w a es):oq [T2 x y o p b t,.int n,.lst es,wo]=gE (kj lk s (Pt w a) n):=by
 cases he with
 |nil e=>exact Ru h hw hn K9 (λk _=>by rw[e];show U (D.int 0)=_;unfold Pt;split<;>rfl)<|λk _=>rfl
 |one=>exact Ru h hw hn (ũ w a) (λk _=>Ũ)<|λk _=>zv0
theorem Ms (hN:iZ [x,y])(ha:a<=1000000000000)(hn:n<=400):xD [x,y] (oC w a n) 0/\Nt (oC w a n):=by
 refine FU hN (λrow h=>?_) (by simp[oC];lia);obtain⟨i,hi,rfl⟩:=dP.mp h;have:va w a i<=a:=by unfold va;split<;>lia
 exact⟨_,_,rfl,by lia,by lia⟩
theorem zv1 (hN:iZ [x,y])(h:b=o+p+s)(hs:s=0\/a=0)(ha:a<=1000000000000)(hn:n<=400)(he:PT w a es):oh [dk (N2 x y o p) (T2 x y o p b t) (.cel es) k,dh ["late",eA n]]=U (.tup [.str<|A6 [x,y] (oC w a n) 0,dk (N2 x y o p) (T2 x y o p b t) (.cel es) k]):=by have ti:jP [.str<|eA n]=dA (n:Int):=qk (by lia);have al:=PJ (Ms (w:=w) hN ha hn).1;rw[←Ϡ hs]at al;have la:=M8 (x:=x) (y:=y) (t:=t) h .non (n:=n) (by lia) he;have lt:(λY:L3.Env=>((C (e1 (dH [6] "table")<|M 0)<|C (eN jP<|C (L eG (M 1)<|eC<|.int 1) Å)<|C (e1 (AH [6])<|M 0) Å) Y).bind λO=>oq<|O++[.non]) [U<|dk (N2 x y o p) (T2 x y o p b t) (.cel es) k,U<|dh ["late",eA n]]=gE (kj Â s (Pt w a) n):=zy (eD rfl<|eD (rJ rfl ti)<|eD rfl rfl) la;unfold oh Ý;exact u2 (zy (eD rfl<|eD lt rfl) al) rfl
end
theorem Sd {c:Nat}{m:Str}{f:EF}{o:D}{r:Option D}(h0:f Y=U o)(h1:fs Y=U O)(h2:ko c m mf o (O++[])=r):(λY=>(f Y).bind λo=>(fs Y).bind λO=>ko c m mf o<|O++[]) Y=r:=by show(f Y).bind _=_;rw[h0];show(fs Y).bind _=_;rw[h1];exact h2
section
variable {x y:Str}{o p t n w:Nat}
theorem Re {r:List (Option D)}:pS (U (T2 x y o p (o+p) t)::y1::U (N2 x y o p)::r)=U (.lst [.int 0,.int 1]):=by
 refine u8 (λ(i:Nat)=>D.int i) (λ_=>Â) (λi=>.int i) [0,1] (by kernel_rfl) (by simp) λi hi=>⟨_,rfl,iQ<|fO (a:=.int 0) ?_ rfl<|(j0 _ _).trans<|by simp,λ_=>rfl⟩;have s1:ko 5 "slack" eR (T2 x y o p (o+p) t) [.int ((1:Nat):Int)]=dA 0:=MP (s:=0) rfl;have s0:ko 5 "slack" eR (T2 x y o p (o+p) t) [.int ((0:Nat):Int)]=dA 0:=MO;simp only[cP,dm,or_false]at hi;rcases hi with rfl|rfl
 ·exact Sd rfl rfl s0
 ·exact Sd rfl rfl s1
theorem zv2:jX [T2 x y o p (o+p) t,.int 0]=U (.lst [.int 0,.int 1]):=by unfold jX Ï;refine zn (zx (d:=N2 x y o p) rfl)<|zn (zx Re) ?_;kernel_rfl
theorem zv3:jX [T2 x y o p (o+p) t,.int 1]=U (.lst [.int 1,.int 0]):=by unfold jX Ï;refine zn (zx (d:=N2 x y o p) rfl)<|zn (zx Re) ?_;kernel_rfl
theorem ŧ {r:List (Option D)}:pR (U (T2 x y o p (o+p) t)::r)=U (.lst [.int 0,.int 1]):=by
 refine u8 (λ(i:Nat)=>D.int i) (λ_=>Â) (λi=>.int i) [0,1] (by kernel_rfl) (by simp) λi hi=>⟨_,rfl,?_,λ_=>rfl⟩;simp only[cP,dm,or_false]at hi;rcases hi with rfl|rfl
 ·exact iQ<|fO (zy rfl zv2) rfl rfl
 ·exact iQ<|fO (zy rfl zv3) rfl rfl
abbrev rv (w a k:Nat):D:=.lst [.int (va w a k:Int),.int (va w a k:Int)]
theorem F7 {k:Nat}{y5:Option D}:(w<=k->0<a->jL [y0,y1,U<|.lst [.int 0,.int 1],dA k,U<|rv w a k,y5]=U (.rt<|.tup [.str "ever",.int 0,.int k]))/\(k<w->∃z5,jL [y0,y1,U<|.lst [.int 0,.int 1],dA k,U<|rv w a k,y5]=U (.nx [y0,y1,U<|.lst [.int 0,.int 1],dA k,U<|rv w a k,z5])):=by
 constructor
 ·intro h ha;have e:va w a k=a:=if_pos h;refine(v5 rfl).trans<|Nd rfl ?_;unfold kZ;exact xN (iQ<|fO (a:=.int (va w a k:Int)) rfl rfl<|(ub _ _).trans<|by rw[decide_eq_true<|by lia])<|jq rfl
 ·intro h;have e:va w a k=0:=if_neg (by lia);have b1:∀(g:Int) (z5:Option D),(g=0\/g=1)->kZ [y0,y1,U<|.lst [.int 0,.int 1],dA k,U<|rv w a k,dA g]=U (.nx [y0,y1,U<|.lst [.int 0,.int 1],dA k,U<|rv w a k,dA g]):=by intro g z5 hg;unfold kZ;refine qU (iQ<|fO (a:=.int (va w a k:Int)) ?_ rfl<|(ub _ _).trans<|by rw[decide_eq_false<|by lia]) rfl;rcases hg with rfl|rfl<;>rfl
  exact⟨_,(v5 rfl).trans<|wn rfl (b1 0 G<|.inl rfl)<|wn rfl (b1 1 G<|.inr rfl) rfl⟩
theorem QY (ha:0<a){y0 y1:Option D}:∀(m j:Nat) (y3 y4 y5:Option D),j<=w ->
  (w<j+m->mn (gT<|Í (gV 3)<|Í (gV 4) Ù) jL (iC j<|(ip j m).map<|rv w a) [y0,y1,U<|.lst [.int 0,.int 1],y3,y4,y5]=U (.rt<|.tup [.str "ever",.int 0,.int w])) /\
  (j+m<=w->∃z3 z4 z5,mn (gT<|Í (gV 3)<|Í (gV 4) Ù) jL (iC j<|(ip j m).map<|rv w a) [y0,y1,U<|.lst [.int 0,.int 1],y3,y4,y5]=U (.nx [y0,y1,U<|.lst [.int 0,.int 1],z3,z4,z5]))
 |0,j,y3,y4,y5,h=>⟨λz=>absurd z<|by lia,λ_=>⟨_,_,_,rfl⟩⟩
 |m+1,j,y3,y4,y5,h=>by
  have e:iC j ((ip j<|m+1).map<|rv w a)=.tup [.int j,rv w a j]::iC (j+1) ((ip (j+1) m).map<|rv w a):=rfl;rw[e];by_cases hj:j=w
  ·subst hj;exact⟨λ_=>Nd rfl<|F7.1 (di _) ha,λz=>absurd z<|by lia⟩
  ·obtain⟨z5,hb⟩:=(F7 (w:=w) (a:=a) (k:=j) (y0:=y0) (y1:=y1) (y5:=y5)).2 (by lia);obtain⟨i1,i2⟩:=QY ha (y0:=y0) (y1:=y1) m (j+1) (dA j) (U<|rv w a j) z5 (by lia);exact⟨λz=>wn rfl hb<|i1<|by lia,λz=>by obtain⟨z3,z4,z5,i⟩:=i2 (by lia);exact⟨z3,z4,z5,wn rfl hb i⟩⟩
theorem Qr (n:Nat):kj Â 0 (Pt w a) n=(ip 0 n).map (rv w a):=by unfold kj;rw[qB];exact qR λk _=>Qq (.inl rfl) k
theorem Ŧ (ha:0<a):mq [T2 x y o p (o+p) t,.lst<|kj Â 0 (Pt w a) n]=U (if w<n then .tup [.str "ever",.int 0,.int w]else .non):=by
 rw[Qr];obtain⟨i1,i2⟩:=QY (w:=w) ha (y0:=some<|T2 x y o p (o+p) t) (y1:=gE<|(ip 0 n).map<|rv w a) n 0 G G G (by lia);unfold mq Ï;refine zn (zx ŧ) ?_;by_cases h:w<n
 ·rw[if_pos h];exact IK ((v5 rfl).trans<|i1<|by lia) rfl
 ·rw[if_neg h];obtain⟨z3,z4,z5,i⟩:=i2 (by lia);exact zn ((v5 rfl).trans i) rfl
end
theorem VD {q:BF}{f g:EM}{k:D×L3.Env->Option D}{r:Option D}(h:q Y=U Â)(h2:(f Y).bind k=r):(zK q f g Y).bind k=r:=by unfold zK;rw[h];exact h2
theorem Sm {q:BF}{f g:EM}{k:D×L3.Env->Option D}{r:Option D}(h:q Y=U Ã)(h2:(g Y).bind k=r):(zK q f g Y).bind k=r:=by unfold zK;rw[h];exact h2
section
variable {x y:Str}{o p t n w:Nat}{k:Int}
theorem zv4 (h:n<=w)(hn:n<=400){r:List (Option D)}:xR (y0::y1::y2::(gE<|kj Â 0 (Pt w a) n)::r)=U (.lst []):=by
 have e:kj Â 0 (Pt w a) n=(eF n).map (rv w a):=by rw[Qr,←qB]
 rw[e];have:=u8 (fi:=λY=>((C (M 3) Å) Y).bind λO=>match O with|[.lst xs]=>U (iC 0 xs)|_=>G) (own:=2) (cap:=[]) (g:=gT<|Í (gV 0)<|Í (gV 1) Ù) (p:=tb<|L uL (eN tY<|C (M 1) Å)<|eC<|.int 0) (f:=M 0) (r:=y0::y1::y2::(gE<|(eF n).map<|rv w a)::r) (λq:Nat×Nat=>D.tup [.int q.2,rv w a q.1]) (λ_=>Ã) (λ_=>.non) (eF n).zipIdx (by show U (iC 0<|(eF n).map<|rv w a)=_;rw[IF]) (by simp;lia) λq hq=>⟨_,rfl,?_,nofun⟩
 ·refine this.trans ?_;rw[List.filter_eq_nil_iff.mpr<|by simp];rfl
 ·have hv:va w a q.1=0:=if_neg (by
   have:=fM.mp<|iq<|Ζ hq
   lia)
  refine iQ<|fO (a:=.int 0) (rJ rfl ?_) rfl rfl;show tY [.lst [.int (va w a q.1:Int),.int (va w a q.1:Int)]]=_;rw[hv];rfl
theorem VE (h:n<=w)(ha:0<a){r:List (Option D)}:xS (y0::U (.lst [.tup [.int 0,.int w,.int a]])::(dA n)::r)=U (.lst [.int w]):=by refine u8 (λ(_:Unit)=>D.tup [.int 0,.int w,.int a]) (λ_=>Â) (λ_=>.int w) [()] rfl (by simp) λu _=>⟨_,rfl,?_,λ_=>rfl⟩;have c1:=iQ (f:=L uL (M 2)<|eC<|.int 0) (Y:=[dA 0,dA w,dA a,dA n]) (b:=true) (fO rfl rfl<|(ub _ _).trans<|by rw[decide_eq_true<|by lia]);have c2:=iQ (f:=L E9 (M 1)<|M 3) (Y:=[dA 0,dA w,dA a,dA n]) (b:=true) (fO rfl rfl<|(ċ _ _).trans<|by rw[decide_eq_true<|by lia]);unfold Ü;refine(congrArg (dX · _) c1).trans ?_;exact c2
theorem ŉ (ha:0<a)(hn:n<=400):vW [T2 x y o p (o+p) t,.lst [.tup [.int 0,.int w,.int a]],.int n]=U (if w<n then .tup [.str "ever",.int 0,.int w]else .non):=by
 have la:=M8 (x:=x) (y:=y) (o:=o) (p:=p) (t:=t) (b:=o+p) (s:=0) rfl .non (n:=n) (by lia)<|PT.one (w:=w) (a:=a);have kp:=Ŧ (x:=x) (y:=y) (o:=o) (p:=p) (t:=t) (n:=n) (w:=w) ha;unfold vW Ï;refine zn (zx<|zy rfl la)<|zn (zx<|zy rfl kp) ?_;by_cases h:w<n
 ·rw[if_pos h];exact IK (xN rfl<|jq rfl) rfl
 ·rw[if_neg h];have mx:xP (.lst [.int w]) (.int<|-1)=dA (w:Int):=rfl;refine zn (qU rfl rfl) (zn (zx<|VE (by lia) ha)<|zn (zx (d:=.lst [.int w])<|fO (zv4 (by lia) hn) rfl rfl)<|zn (zx (d:=.int<|w+1)<|fO (fO rfl rfl mx) rfl rfl) ?_);refine(congrArg (dX · _)<|jq<|JC (iQ<|fO (a:=.int<|w+1+1) (b:=.int n) (by kernel_rfl) rfl<|(u5 _ _).trans<|by rw[decide_eq_false<|by lia]) rfl).trans rfl
def Do (x:Str)(w n:Nat):Str:=if w<n then Str.join (fW 32) ["ever",x,eA w]else "none"
theorem ϻ (hN:iZ [x,y])(ha:0<a)(hw:w<=400)(hn:n<=400):n9 [dk (N2 x y o p) (T2 x y o p (o+p) t) (.cel [.tup [.int 0,.int w,.int a]]) k,dh ["fate",eA n]]=U (.tup [.str<|Do x w n,dk (N2 x y o p) (T2 x y o p (o+p) t) (.cel [.tup [.int 0,.int w,.int a]]) k]):=by
 have ti:jP [.str<|eA n]=dA (n:Int):=qk (by lia);have ft:=ŉ (x:=x) (y:=y) (o:=o) (p:=p) (t:=t) (w:=w) ha hn;unfold n9 Ý Do;refine xr (zx<|zy (eD rfl<|eD rfl<|eD (rJ rfl ti) rfl) ft) ?_;by_cases h:w<n
 ·rw[if_pos h,if_pos h];have ne:iI Ã (.str "ever") (.str "died")=U (.bl Ã):=(xt (zw _)<|zw _).trans (by rw[decide_eq_false<|by decide +kernel];rfl);refine Sm (iQ rfl) (Sm (iQ<|fO (a:=.str "ever") rfl rfl ne)<|u2 (fO (op:=oB) (a:=.str " ") rfl (vz (eD rfl<|eD (d:=.str x) rfl<|eD (rJ rfl<|M4 (t:=(w:Int)) (by lia)<|by lia) rfl) rfl) ?_) rfl);rw[ug];refine Jk (ys:=["ever",x,eA w]) (b:=15) (λz hz=>?_) (by rw[Lo];simp);simp only[cP,dm,or_false]at hz;rcases hz with rfl|rfl|rfl
  ·decide
  ·have:=wk (hN.ok z<|by simp);lia
  ·exact yx (by lia)
 ·rw[if_neg h,if_neg h];exact VD (iQ rfl)<|u2 rfl rfl
end
theorem Rv {p:BF}{b:Bool}(h:p Y=U b):Û p Y=U (!b):=by unfold Û;rw[h];rfl
theorem Rw {i:Nat}{p:BF}{d:D}(h:p (Y.set i<|U d)=U Â):pI i p Y (d::O)=U (.rt d):=by unfold pI;rw[h];rfl
theorem ň {i:Nat}{p:BF}{d:D}{r:Option ï}(h:p (Y.set i<|U d)=U Ã)(h2:pI i p Y O=r):pI i p Y (d::O)=r:=by unfold pI;rw[h];exact h2
theorem Ň {i:Nat}{f:EF}{p:BF}{r:Option ï}(hi:i < Y.length)(hf:f Y=gE O)(h:pI i p Y O=r):vM i f p Y=r:=by unfold vM;rw[if_pos hi,hf];exact h
section
variable {x y:Str}{o p t n w:Nat}{k:Int}
theorem Qs (hw:WO wo lk)(hn:n<=60)(he:PT w a es):jB [T2 x y o p (o+p) t,.lst es,.int 1,.int n,wo]=U (.bl<|decide<|0<pv lk 0 (Pt w a) (n+1)):=by have la:oq [T2 x y o p (o+p) t,.int<|n+1,.lst es,wo]=U (.lst<|kj lk 0 (Pt w a)<|n+1):=M8 (s:=0) rfl hw (n:=n+1) (by lia) he;have x1:eG (.lst<|kj lk 0 (Pt w a)<|n+1) (.int n)=U (zJ lk 0 (Pt w a) n):=wy (by simp[kj]);have x2:eG (zJ lk 0 (Pt w a) n) (.int 1)=U (.int<|pv lk 0 (Pt w a)<|n+1):=rfl;generalize pv lk 0 (Pt w a) (n+1)=v,zJ lk 0 (Pt w a) n=rw,D.lst (kj lk 0 (Pt w a)<|n+1)=R,T2 x y o p (o+p) t=T at *;clear hw he;unfold jB;walk_at "mid"
theorem ņ {r:List (Option D)}{b:Nat}:tm (U (T2 x y o p b t)::r)=U (.lst [.int 0]):=by kernel_rfl
theorem Ņ:nU [.lst [.int 0]]=U (.lst [.lst [],.lst [.int 0]]):=by kernel_rfl
theorem ń (ha:0<a)(hn:n<=60)(he:PT w a es):p5 [T2 x y o p (o+p) t,.lst es,.int 1,.int n]=U (if w<=n then .lst [.int 0]else .lst []):=by
 have l0:jB [T2 x y o p (o+p) t,.lst es,.int 1,.int n,.lst [.int 0]]=U (.bl Ã):=(Qs .one hn he).trans (by
  rw[show pv Ã 0 (Pt w a) (n+1)=0 from rfl]
  rfl)
 have l1:jB [T2 x y o p (o+p) t,.lst es,.int 1,.int n,.lst []]=U (.bl<|decide<|w<=n):=(Qs .nil hn he).trans (by
  rw[(M7 (.inl rfl)<|n+1).1];by_cases h:w<=n
  ·rw[decide_eq_true h,decide_eq_true<|by rw[if_pos<|by lia];lia]
  ·rw[decide_eq_false h,decide_eq_false<|by rw[if_neg<|by lia];lia])
 have fi:∀(r:Option D),vM 5 (cl nU<|C (M 4) Å) (Û<|tb<|cl jB<|C (M 0)<|C (M 1)<|C (M 2)<|C (M 3)<|C (M 5) Å) [U<|T2 x y o p (o+p) t,gE es,dA 1,dA n,U<|.lst [.int 0],G]=U (.rt<|if w<=n then .lst [.int 0]else .lst []):=by
  intro _;have c1:=Rv<|iQ (f:=cl jB<|C (M 0)<|C (M 1)<|C (M 2)<|C (M 3)<|C (M 5) Å) (Y:=[U<|T2 x y o p (o+p) t,gE es,dA 1,dA n,U<|.lst [.int 0],U<|.lst []])<|zy (O:=[T2 x y o p (o+p) t,.lst es,.int 1,.int n,.lst []]) rfl l1;have c0:=Rv<|iQ (f:=cl jB<|C (M 0)<|C (M 1)<|C (M 2)<|C (M 3)<|C (M 5) Å) (Y:=[U<|T2 x y o p (o+p) t,gE es,dA 1,dA n,U<|.lst [.int 0],U<|.lst [.int 0]])<|zy (O:=[T2 x y o p (o+p) t,.lst es,.int 1,.int n,.lst [.int 0]]) rfl l0;have se:(cl nU<|C (M 4) Å) [U<|T2 x y o p (o+p) t,gE es,dA 1,dA n,U<|.lst [.int 0],G]=U (.lst [.lst [],.lst [.int 0]]):=zy (O:=[.lst [.int 0]]) rfl Ņ;refine Ň (by simp) se ?_;by_cases h:w<=n
  ·rw[decide_eq_true h]at c1;rw[if_pos h];exact ň c1<|Rw c0
  ·rw[decide_eq_false h]at c1;rw[if_neg h];exact Rw c1
 unfold p5 Ï;exact zn (zx ņ)<|zn (qU rfl rfl)<|zn (qU (iQ<|zy (O:=[T2 x y o p (o+p) t,.lst es,.int 1,.int n,.lst [.int 0]]) rfl l0) rfl)<|IK (fi G) rfl
noncomputable def D3 (w n:Nat):Str:=if w<=n then "0" else ""
theorem Ϻ (hN:iZ [x,y])(ha:0<a)(hn:n<=60)(he:PT w a es):og [dk (N2 x y o p) (T2 x y o p (o+p) t) (.cel es) k,dh ["give",y,eA n]]=U (.tup [.str<|D3 w n,dk (N2 x y o p) (T2 x y o p (o+p) t) (.cel es) k]):=by
 have g:fD [dk (N2 x y o p) (T2 x y o p (o+p) t) (.cel es) k,.str y]=dA 1:=by have:=II hN.nd (i:=1) (by simp);show fD [dk (N2 x y o p) (T2 x y o p (o+p) t) (.cel es) k,.str<|mX [x,y] 1]=_;unfold fD Ï;rw[jq<|fO (op:=xM) (a:=dh [x,y]) (b:=.str<|mX [x,y] 1) rfl rfl this];rfl
 have ti:jP [.str<|eA n]=dA (n:Int):=qk (by lia);have gi:=ń (x:=x) (y:=y) (o:=o) (p:=p) (t:=t) ha hn he;unfold og Ý D3;refine xr (zx<|zy (eD rfl<|eD rfl<|eD (zy rfl g)<|eD (rJ rfl ti) rfl) gi) ?_;by_cases h:w<=n
 ·rw[if_pos h,if_pos h];exact u2 (JC (iQ rfl)<|by kernel_rfl) rfl
 ·rw[if_neg h,if_neg h];exact u2 (JC (iQ rfl)<|by kernel_rfl) rfl
end
theorem uh (a b c:Str):a++(b++c)=a++b++c:=vc (by simp only[xq,et])
theorem sl (w:Str)(s:Str):Str.join (fW 32) [w,s]=w++fW 32++s:=by rw[IJ];rfl
theorem BP (w s u:Str):Str.join (fW 32) [w,s,u]=w++fW 32++s++fW 32++u:=by rw[IJ,sl];simp only[uh]
theorem Iw (w s u v:Str):Str.join (fW 32) [w,s,u,v]=w++fW 32++s++fW 32++u++fW 32++v:=by rw[IJ,BP];simp only[uh]
theorem Og (w s u v z:Str):Str.join (fW 32) [w,s,u,v,z]=w++fW 32++s++fW 32++u++fW 32++v++fW 32++z:=by rw[IJ,Iw];simp only[uh]
theorem xh {f g:EF}{a b:Str}(h1:f Y=U (.str a))(h2:g Y=U (.str b))(h:a.length+b.length<=1000):L dL f g Y=U (.str<|a++b):=fO h1 h2 (LY<|by lia)
theorem ui {f:EF}{n:Nat}(h1:f Y=dA n)(h:n<=1000000000000000):eN iM (C f Å) Y=U (.str<|eA n):=rJ (eD h1 rfl) (M4 (by lia)<|by lia)
section
variable {x y:Str}{o p n w b t s:Nat}{k:Int}
theorem fl {z:Str}(h:(z.cps.toList.contains 32=Ã/\z.length<=20)):oz 32 z/\z.length<=20:=by refine⟨λq=>?_,h.2⟩;have e:=List.elem_eq_true_of_mem q;rw[show List.elem 32 z.cps.toList=z.cps.toList.contains 32 from rfl,h.1]at e;exact cZ e
theorem Ń:Wd "run" Â Ã:=⟨zw _,by decide +kernel,by decide +kernel,wc<|by decide +kernel,by decide +kernel⟩
theorem zro:Wd "again" Â Ã:=⟨zw _,by decide +kernel,by decide +kernel,wc<|by decide +kernel,by decide +kernel⟩
theorem ł:Wd "put" Â Ã:=⟨zw _,by decide +kernel,by decide +kernel,wc<|by decide +kernel,by decide +kernel⟩
theorem Ϲ:Wd "late" Â Â:=⟨zw _,by decide +kernel,by decide +kernel,wc<|by decide +kernel,by decide +kernel⟩
theorem ϸ:Wd "fate" Â Â:=⟨zw _,by decide +kernel,by decide +kernel,wc<|by decide +kernel,by decide +kernel⟩
theorem Ϸ:Wd "give" Â Â:=⟨zw _,by decide +kernel,by decide +kernel,wc<|by decide +kernel,by decide +kernel⟩
theorem ϖ (hN:iZ [x,y])(ho:o<=1000000000)(hp:p<=1000000000)(hn:n<=400):dN [dk (N2 x y o p) tl pt k,.str<|"run "++eA n]=U (.tup [.str<|A6 [x,y] (uX o p n) 0,dk (N2 x y o p) tl pt<|k+1]):=by rw[show("run ":Str) = "run"++fW 32 by decide +kernel,←sl];exact Jb (mo:=[x,y]) (lo:=0) (hi:=400) Ń nofun (fl<|by decide +kernel) (by lia) (by lia) (by lia) rfl (wc<|by decide +kernel) rfl<|ū hN ho hp hn
theorem Y8 (h1:1<=n)(ho:o<=1000000000)(hp:p<=1000000000)(hn:n<=200):dN [dk (N2 x y o p) tl pt k,.str<|"again "++eA n]=U (.tup [.str<|D0 o p n,dk (N2 x y o p) tl pt<|k+1]):=by rw[show("again ":Str) = "again"++fW 32 by decide +kernel,←sl];exact Jb (mo:=[x,y]) (lo:=1) (hi:=200) zro nofun (fl<|by decide +kernel) (by lia) (by lia) (by lia) rfl (wc<|by decide +kernel) rfl<|zrd h1 hn ho hp
theorem Qt (hN:iZ [x,y])(h:b=o+p+s)(hs:s=0\/a=0)(ha:a<=1000000000000)(hn:n<=400)(he:PT w a es):dN [dk (N2 x y o p) (T2 x y o p b t) (.cel es) k,.str<|"late "++eA n]=U (.tup [.str<|A6 [x,y] (oC w a n) 0,dk (N2 x y o p) (T2 x y o p b t) (.cel es)<|k+1]):=by rw[show("late ":Str) = "late"++fW 32 by decide +kernel,←sl];exact Jb (mo:=[x,y]) (lo:=0) (hi:=400) Ϲ (λ_=>rfl) (fl<|by decide +kernel) (by lia) (by lia) (by lia) rfl (wc<|by decide +kernel) rfl<|zv1 hN h hs ha hn he
theorem zrp (hN:iZ [x,y])(h1:1<=n)(ha:0<a)(hw:w<=400)(hn:n<=400):dN [dk (N2 x y o p) (T2 x y o p (o+p) t) (.cel [.tup [.int 0,.int w,.int a]]) k,.str<|"fate "++eA n]=U (.tup [.str<|Do x w n,dk (N2 x y o p) (T2 x y o p (o+p) t) (.cel [.tup [.int 0,.int w,.int a]])<|k+1]):=by rw[show("fate ":Str) = "fate"++fW 32 by decide +kernel,←sl];exact Jb (mo:=[x,y]) (lo:=1) (hi:=400) ϸ (λ_=>rfl) (fl<|by decide +kernel) (by lia) (by lia) (by lia) rfl (wc<|by decide +kernel) rfl<|ϻ hN ha hw hn
theorem zrq (hN:iZ [x,y])(ha:0<a)(hn:n<=60)(he:PT w a es):dN [dk (N2 x y o p) (T2 x y o p (o+p) t) (.cel es) k,.str<|"give "++y ++ " "++eA n]=U (.tup [.str<|D3 w n,dk (N2 x y o p) (T2 x y o p (o+p) t) (.cel es)<|k+1]):=by
 rw[show("give ":Str) = "give"++fW 32 by decide +kernel,ug,←BP];have yl:=wk (hN.ok y<|by simp);refine Mn (mo:=[x,y]) (w0:="give") (ps:=[(y,G),(eA n,U (0,60))]) Ϸ (λ_=>rfl) (fl<|by decide +kernel) (λq hq=>?_) (by simp) rfl (wc<|by decide +kernel) (λq hq e=>?_) rfl<|Ϻ hN ha hn he
 ·simp only[cP,dm,or_false]at hq;rcases hq with rfl|rfl
  ·exact⟨nofun,qm (hN.ok y<|by simp)<|by decide,by show y.length<=20;lia⟩
  ·exact⟨λl h e=>by cases e;exact⟨n,rfl,by lia,by lia,by lia⟩,ET<|by lia⟩
 ·simp only[cP,dm,or_false]at hq;rcases hq with rfl|rfl
  ·simp
  ·cases e
theorem ϕ (hN:iZ [x,y])(hw:w<=400)(ha:a<=1000000000000):dN [dk (N2 x y o p) tl (.cel []) k,.str<|"put "++x ++ " "++eA w ++ " "++eA a]=U (.tup [.str "ok",dk (N2 x y o p) tl (.cel [.tup [.int 0,.int w,.int a]])<|k+1]):=by
 rw[show("put ":Str) = "put"++fW 32 by decide +kernel,ug,←Iw];have xl:=wk (hN.ok x<|by simp);refine Mn (mo:=[x,y]) (w0:="put") (ps:=[(x,G),(eA w,U (0,400)),(eA a,U (0,1000000000000))]) ł nofun (fl<|by decide +kernel) (λq hq=>?_) (by simp) rfl (wc<|by decide +kernel) (λq hq e=>?_) rfl (Ū hN hw ha (es:=[])<|by simp)
 ·simp only[cP,dm,or_false]at hq;rcases hq with rfl|rfl|rfl
  ·exact⟨nofun,qm (hN.ok x<|by simp)<|by decide,by show x.length<=20;lia⟩
  ·exact⟨λl h e=>by cases e;exact⟨w,rfl,by lia,by lia,by lia⟩,ET<|by lia⟩
  ·exact⟨λl h e=>by cases e;exact⟨a,rfl,by lia,by lia,by lia⟩,ET<|by lia⟩
 ·simp only[cP,dm,or_false]at hq;rcases hq with rfl|rfl|rfl
  ·simp
  ·cases e
  ·cases e
theorem QZ (h:b=o+p+s)(hb:b<=1000000000000)(ht:t+o<=1000000000000):dN [dk (N2 x y o p) tl pt k,.str<|"plan "++eA b++(" "++eA t ++ " "++eA ((t+o:Nat):Int))]=U (.tup [.str "ok",dk (N2 x y o p) (T2 x y o p b t) pt<|k+1]):=by rw[show("plan ":Str) = "plan"++fW 32 by decide +kernel,ug,uh,uh,uh,←Iw];exact ZW (as:=A2 o p) hb (by lia) (by lia)<|Ϣ h hb ht
end
theorem DP {p:BM}{u w:SF}(h:p Y=U (Ã,ρ'))(hw:w=Ë):t9 p u w Y=U (.nx ρ'):=by unfold t9;rw[h,hw];rfl
theorem FA {f:EM}{g:EF}{d:Str}(h:f Y=U (.str d,ρ'))(hg:g ρ'=U (.str d))(hd:dD.strOk d=Â):uV (iI Â) f g Y=U (Ã,ρ'):=by unfold uV;rw[h];show((g ρ').bind _)=_;rw[hg];show((iI Â (.str d)<|.str d).bind _)=_;rw[(xt hd hd).trans (by simp:_=U (D.bl Ã))];rfl
section
variable {x y:Str}{o p:Nat}{k:Int}
theorem Sn {f g:BF}{r:Option Bool}(h:f Y=U Â)(h2:g Y=r):Ü f g Y=r:=by unfold Ü;rw[h];exact h2
theorem GX {f g:BF}{r:Option Bool}(h:f Y=U Ã)(h2:g Y=r):è f g Y=r:=by unfold è;rw[h];exact h2
theorem Ez {f:BF}(h:f Y=U Â):Û f Y=U Ã:=by unfold Û;rw[h];rfl
theorem FZ {f:BF}{b:Bool}(h:f Y=U b):eB f Y=U (.bl b):=by unfold eB;rw[h];rfl
theorem Hm {t:Nat}(h:t<=1000000000):ix [.int t,.int 0,.int 1000000000]=U (.bl Â):=by
 have h1:(t:Int)<=1000000000:=by lia
 have q1:tW "int" (.int t)=U (.bl Â):=rfl;have q2:tW "bool" (.int t)=U (.bl Ã):=rfl;unfold ix;walk_at "mid"
theorem G9 (h:o<=1000000000):mK [gw ⟨.wait,0,1,(o:Int),0⟩,.int 2]=U (.bl Â) :=
 zn rfl (zn rfl<|zn (qU (by kernel_rfl) rfl)<|congrArg (dX · _)<|jq<|FZ<|Sn (iQ<|zy (O:=[.int _,.int 0,.int 1000000000]) (xs:=[]) rfl<|Hm h)<|by kernel_rfl)
theorem Ll (h:p<=1000000000):mK [gw ⟨.back,1,0,(p:Int),1⟩,.int 2]=U (.bl Â) :=
 zn rfl (zn rfl<|zn (qU (by kernel_rfl) rfl)<|congrArg (dX · _)<|jq<|FZ<|Sn (iQ<|zy (O:=[.int _,.int 0,.int 1000000000]) (xs:=[]) rfl<|Hm h)<|by kernel_rfl)
theorem GR {ρ0:D}{ks:List kL}{vs:List D}(h:nS [.str x]=U (.bl Â))(h2:qD ks vs (.inr x)=G)(hl:ks.length<16777216):qK [U ρ0,U<|.dK ks vs,U<|.str x]=U (.nx [U ρ0,U<|.dK (pQ ks vs (.inr x)<|.bl Â).1 (pQ ks vs (.inr x)<|.bl Â).2,U<|.str x]) :=
 qo (qU (GX (Ez<|iQ<|zy rfl h)<|iQ<|by show U (D.bl (qD ks vs<|.inr x).isSome)=_;rw[h2];rfl) rfl) (by show(if ks.length<16777216 then _ else G)=_;rw[if_pos hl];rfl)
theorem Ł (hN:iZ [x,y]):pM [.lst [.str x,.str y]]=U (.bl Â):=by
 have ne:¬(Sum.inr x:kL)=.inr y:=λe=>by cases e;exact absurd hN.nd (by simp)
 refine zn rfl (zn rfl<|zn ((v5 rfl).trans<|wn rfl (GR (Pk<|hN.ok x<|by simp) rfl<|by simp)<|wn rfl (GR (Pk<|hN.ok y<|by simp) ?_<|by simp[pQ]) rfl) rfl);show(([((Sum.inr x:kL),D.bl Â)].find? _).map _)=_;rw[fE,decide_eq_false ne];rfl
theorem Ex {B r s:Option D}{a:D}(h:mK [a,.int 2]=U (.bl Â)):mC [s,U<|.lst [.str x,.str y],B,r,U a,G]=U (.nx [s,U<|.lst [.str x,.str y],B,r,U a,G]) :=
 qU (Ez<|iQ<|zy rfl h) rfl
theorem Ey {r s:Option D}(hN:iZ [x,y])(hl:as.length<=120)(hp:kG [.int 2,.lst<|as.map gw]=U (.lst [.int 0,.int 1]))(hr:mn (gT<|Í (gV 3)<|Í (gV 4) Ù) mC (iC 0<|as.map gw) [U<|.obj 4 [] [],U<|.lst [.str x,.str y],gE<|as.map gw,G,G,G]=U (.nx [U<|.obj 4 [] [],U<|.lst [.str x,.str y],gE<|as.map gw,r,s,G])):qJ [x,y] as:=by refine⟨hl,zn (qU (GX (Ez<|iQ<|zy rfl<|Ł hN)<|iQ<|fO rfl rfl<|(ub _ _).trans<|by rw[decide_eq_false<|by rw[dr];lia]) rfl)<|zn ((v5 rfl).trans hr)<|zn (zx<|zy rfl hp)<|zn rfl<|zn rfl rfl⟩
theorem VF (hN:iZ [x,y]):qJ [x,y] []:=Ey hN (by simp) (by kernel_rfl) rfl
theorem VG (hN:iZ [x,y])(ho:o<=1000000000):qJ [x,y] [⟨.wait,0,1,(o:Int),0⟩]:=Ey hN (by simp) (by kernel_rfl)<|wn rfl (Ex<|G9 ho) rfl
theorem VH (hN:iZ [x,y])(ho:o<=1000000000)(hp:p<=1000000000):qJ [x,y] (A2 o p):=Ey hN (by simp[A2]) (by kernel_rfl)<|wn rfl (Ex<|G9 ho)<|wn rfl (Ex<|Ll hp) rfl
theorem VI (hN:iZ [x,y])(ho:o<=1000000000):dN [dk (f7 [.str x,.str y] []) tl pt k,.str<|"wait "++x ++ " "++y ++ " "++eA o ++ " 0"]=U (.tup [.str "ok",dk (f7 [.str x,.str y] [⟨.wait,0,1,(o:Int),0⟩]) .non pt<|k+1]):=by
 have r:=RM (a:=⟨.wait,0,1,(o:Int),0⟩) hN ⟨by simp,by simp,by show(0:Int)<=o;lia,by show(o:Int)<=_;lia,by simp,nofun⟩ nofun
 rw[show("wait ":Str) = "wait"++fW 32 by decide +kernel,show(" 0":Str)=fW 32++eA ((0:Nat):Int)by decide +kernel,ug,uh,←Og];exact PH (mo:=[x,y]) (as:=[]) (w0:="wait") (by simp) r<|VG hN ho
theorem VJ (hN:iZ [x,y])(ho:o<=1000000000)(hp:p<=1000000000):dN [dk (f7 [.str x,.str y] [⟨.wait,0,1,(o:Int),0⟩]) tl pt k,.str<|"back "++y ++ " "++x ++ " "++eA p ++ " 1"]=U (.tup [.str "ok",dk (N2 x y o p) .non pt<|k+1]):=by
 have r:=RM (a:=⟨.back,1,0,(p:Int),1⟩) hN ⟨by simp,by simp,by show(0:Int)<=p;lia,by show(p:Int)<=_;lia,by simp,nofun⟩ nofun
 rw[show("back ":Str) = "back"++fW 32 by decide +kernel,show(" 1":Str)=fW 32++eA ((1:Nat):Int)by decide +kernel,ug,uh,←Og];exact PH (mo:=[x,y]) (as:=[⟨.wait,0,1,(o:Int),0⟩]) (w0:="back") (by simp) r<|VH hN ho hp
theorem Vk (hN:iZ [x,y]):dN [dk nt tl pt k,.str<|"goings "++x ++ " "++y]=U (.tup [.str "ok",dk (f7 [.str x,.str y] []) .non (.cel [])<|k+1]):=by rw[show("goings ":Str) = "goings"++fW 32 by decide +kernel,ug,←BP];exact Yu hN<|VF hN
theorem ϔ {W':D}(hN:iZ [x,y])(ho:o<=1000000000)(hp:p<=1000000000):m5 [W',dh [x,y],.int o,.int p]=U (dk (N2 x y o p) .non (.cel []) 3):=by
 have xl:=wk (hN.ok x<|by simp);have yl:=wk (hN.ok y<|by simp);have ol:=yx (n:=o) (by lia);have pl:=yx (n:=p) (by lia);have l1:("goings ":Str).length=7:=by decide
 have l2:("wait ":Str).length=5:=by decide
 have l3:("back ":Str).length=5:=by decide
 have l4:(" ":Str).length=1:=by decide
 have l5:(" 0":Str).length=2:=by decide
 have l6:(" 1":Str).length=2:=by decide
 generalize Ia:("goings "++x ++ " "++y:Str)=r1;generalize Ib:("wait "++x ++ " "++y ++ " "++eA o ++ " 0":Str)=r2;generalize NS:("back "++y ++ " "++x ++ " "++eA p ++ " 1":Str)=r3;have g1:=Vk (tl:=.non) (pt:=.lst []) (k:=0) (nt:=.non) hN;have g2:=VI (tl:=.non) (pt:=.cel []) (k:=0+1) hN ho;have g3:=VJ (tl:=.non) (pt:=.cel []) (k:=0+1+1) hN ho hp;rw[Ia]at g1;rw[Ib]at g2;rw[NS]at g3;have bd:∀(d d':D) (r:Str) (y6:Option D) {nt tl pt:D} {k:Int},d=dk nt tl pt k->dN [d,.str r]=U (.tup [.str "ok",d'])->nD [U W',U<|dh [x,y],dA o,dA p,U d,U<|.lst [.str r1,.str r2,.str r3],U<|.str r]=U (.nx [U W',U<|dh [x,y],dA o,dA p,U d',U<|.lst [.str r1,.str r2,.str r3],U<|.str r]):=by intro d d' r _ nt tl pt k e h;subst e;unfold nD;exact DP (FA (Cd (i:=4) rfl rfl h) rfl<|zw _) rfl
 unfold m5 Ï;refine zn (zx yX) (zn (zx (d:=.lst [.str r1,.str r2])<|vz (eD ?_<|eD ?_ rfl) rfl)<|zn (JA (K':=[.str r1,.str r2]) (d:=.str r3) rfl ?_<|by simp) ?_)
 ·rw[←Ia];exact xh (xh (xh rfl rfl<|by lia) rfl<|by simp only[ya];lia) rfl (by simp only[ya];lia)
 ·rw[←Ib];exact xh (xh (xh (xh (xh (xh rfl rfl<|by lia) rfl<|by simp only[ya];lia) rfl<|by simp only[ya];lia) rfl<|by simp only[ya];lia) (ui rfl<|by lia)<|by simp only[ya];lia) rfl (by simp only[ya];lia)
 ·rw[←NS];exact xh (xh (xh (xh (xh (xh rfl rfl<|by lia) rfl<|by simp only[ya];lia) rfl<|by simp only[ya];lia) rfl<|by simp only[ya];lia) (ui rfl<|by lia)<|by simp only[ya];lia) rfl (by simp only[ya];lia)
 ·refine(congrArg (dX · _)<|Ga (i:=5) (d:=dk (N2 x y o p) .non (.cel []) 3) ?_).trans rfl;exact qo ((v5 (O:=[.str r1,.str r2,.str r3]) rfl).trans<|wn rfl (bd _ _ r1 G rfl g1)<|wn rfl (bd _ _ r2 G rfl g2)<|wn rfl (bd _ _ r3 G rfl g3) rfl) rfl
end
variable {ns:List Int}
theorem DT {f g:EF}{b:Nat}(h1:f Y=dA a)(h2:g Y=dA b)(hb:0<b)(NG:b<4611686018427387904):L iD f g Y=dA ((a/b:Nat):Int):=fO h1 h2 (by
 show(if _ then _ else _)=_;rw[if_pos ⟨by lia,by lia⟩]
 rfl)
theorem Bc {f g:EF}{b:Nat}(h1:f Y=dA a)(h2:g Y=dA b)(hb:0<b):L iA f g Y=dA ((a%b:Nat):Int):=fO h1 h2 (by
 show(if _ then _ else _)=_;rw[if_pos<|by lia]
 rfl)
theorem ϓ {c m:Nat}(h1:2<=m)(h2:m<=1000):∃v:Nat,gF [.int c,.int m]=dA v/\1<=v/\v<=m:=by
 have md:=rW (c/4) (show 0<m by lia);have e:gF [.int c,.int m]=eG (.lst [.int m,.int<|m-1,.int m,.int<|1+((c/4%m:Nat):Int)]) (.int ((c%4:Nat):Int)):=by
  obtain⟨r,hr⟩:∃r,eG (.lst [.int m,.int<|m-1,.int m,.int<|1+((c/4%m:Nat):Int)]) (.int ((c%4:Nat):Int))=U r:=by have:c%4<4:=rW _ (by lia);rcases(by lia:c%4=0\/c%4=1\/c%4=2\/c%4=3)with h|h|h|h<;>rw[h]<;>exact⟨_,rfl⟩
  unfold gF Ï;refine(congrArg (dX · _)<|jq (d:=r)<|fO (vz (eD rfl<|eD (fO rfl rfl rfl)<|eD rfl<|eD (fO rfl (Bc (DT (b:=4) rfl rfl (by lia)<|by lia) rfl<|by lia) rfl) rfl) rfl) (Bc (b:=4) rfl rfl<|by lia) hr).trans ?_;rw[hr];rfl
 rw[e];rcases(by lia:c%4=0\/c%4=1\/c%4=2\/c%4=3)with h|h|h|h<;>rw[h]
 ·exact⟨m,rfl,by lia,by lia⟩
 ·refine⟨m-1,?_,by lia,by lia⟩;rw[show((m-1:Nat):Int)=(m:Int)-1 by lia];rfl
 ·exact⟨m,rfl,by lia,by lia⟩
 ·refine⟨1+c/4%m,?_,by lia,by lia⟩;rw[show((1+c/4%m:Nat):Int)=1+((c/4%m:Nat):Int)by lia];rfl
theorem jt (h1:M 1 Y=gE (ns.map .int))(i j m:Int){mm:Nat}(hm:m=(mm:Int))(hi:0<=i)(hj:0<=j)(hj2:j<=1000)(h2:2<=mm)(h3:mm<=1000):∃v:Nat,(cl gF<|C (cl fI<|C (cl eS<|C (M 1)<|C (eC<|.int i) Å)<|C (eC<|.int j) Å)<|C (eC<|.int m) Å) Y=dA v/\1<=v/\v<=mm:=by subst hm;obtain⟨c,hc⟩:=HF ns i hi;obtain⟨r,hr,_⟩:=Jc c hj (by lia);obtain⟨v,hv,b1,b2⟩:=ϓ (c:=r) h2 h3;exact⟨v,zy (eD (zy (eD (zy (eD h1<|eD rfl rfl) hc)<|eD rfl rfl) hr)<|eD rfl rfl) hv,b1,b2⟩
theorem Q1 {gm:EM}{d v:D}(h1:gm Y=U (d,ρ'))(h2:gs ρ'=U es)(h3:mf (d::es)=U v):xI gm gs mf Y=U (v,ρ'):=by unfold xI;rw[h1];show((gs ρ').bind _)=_;rw[h2];show((mf (d::es)).bind _)=_;rw[h3];rfl
theorem Et {f:EM}(h:f Y=U (.bl Â,ρ')):AL (mB f) Y=U (Ã,ρ'):=by unfold AL mB;rw[h];rfl
theorem GM {f:EM}{g:EF}{d:Str}{k:D×L3.Env->Option D}{r:Option D}(h:f Y=U (.str d,ρ'))(hg:g ρ'=U (.str d))(hd:dD.strOk d=Â)(h2:k (.bl Â,ρ')=r):((λY=>(f Y).bind λr=>(g r.2).bind λy=>(iI Ã r.1 y).bind λd=>U (d,r.2)) Y).bind k=r:=by show((f Y).bind _).bind _=_;rw[h];show((g ρ').bind _).bind _=_;rw[hg];show((iI Ã (.str d)<|.str d).bind _).bind _=_;rw[(xt hd hd).trans (by simp:_=U (D.bl Â))];exact h2
section
variable {x y:Str}{o p n:Nat}{k:Int}
theorem zrr {j:Nat}(hN:iZ [x,y])(ho:o<=1000000000)(hp:p<=1000000000)(hn:j+1<=400):iU [.str<|A6 [x,y] (uX o p<|j+1) 0,.int ((j+1:Nat):Int),.str<|eA (((j+1)*(o+p):Nat):Int)]=U (.bl Â):=by obtain⟨S',N⟩:=Rt (x:=x) (y:=y) (n:=j+1) hN ho hp hn;exact Rr S' hN N (by simp[uX]) (by simp[uX])
theorem ŀ (hN:iZ [x,y])(ho:o<=1000000000)(hp:p<=1000000000):mL [dk (N2 x y o p) .non (.cel []) 3,.lst<|ns.map .int,.int ((o+p:Nat):Int)]=U (.tup [.bl Â,dk (N2 x y o p) .non (.cel []) 5]):=by
 obtain⟨m,hm,m1,m2⟩:=jt (ns:=ns) (Y:=[U<|dk (N2 x y o p) .non (.cel []) 3,gE<|ns.map .int,dA ((o+p:Nat):Int),G,G,G]) rfl 3 1 400 (mm:=400) rfl (by lia) (by lia) (by lia) (by lia) (by lia);obtain⟨j,rfl⟩:∃j,m=j+1:=⟨m-1,by lia⟩;have sr:=ϖ (x:=x) (y:=y) (o:=o) (p:=p) (n:=j+1) (tl:=.non) (pt:=.cel []) (k:=3) hN ho hp m2;have ls:=zrr (x:=x) (y:=y) (o:=o) (p:=p) (j:=j) hN ho hp m2;have l1:("run ":Str).length=4:=by decide
 have l2:("again ":Str).length=6:=by decide
 have il:=yx (n:=j+1) (by lia);have sl:=yx (n:=o+p) (by lia);have mb:(j+1)*(o+p)<=400*2000000000:=vC (by lia) (by lia);have c1:=Q1 (gs:=C (M 3)<|C (eN iM<|C (L jY (M 3)<|M 2) Å) Å) (mf:=iU) (Cd (i:=0) (gs:=C (L dL (eC<|.str "run ")<|eN iM<|C (M 3) Å) Å) (Y:=[U<|dk (N2 x y o p) .non (.cel []) 3,gE<|ns.map .int,dA ((o+p:Nat):Int),dA ((j+1:Nat):Int),G,G]) rfl (eD (xh rfl (ui rfl<|by lia)<|by lia) rfl) sr) (eD rfl<|eD (ui (n:=(j+1)*(o+p)) (fO rfl rfl<|jf (by lia)<|by lia)<|by lia) rfl) ls;obtain⟨q,hq,q1,q2⟩:=jt (ns:=ns) (Y:=[U<|dk (N2 x y o p) .non (.cel [])<|3+1,gE<|ns.map .int,dA ((o+p:Nat):Int),dA ((j+1:Nat):Int),G,G]) rfl 3 2 200 (mm:=200) rfl (by lia) (by lia) (by lia) (by lia) (by lia);have sa:=Y8 (x:=x) (y:=y) (o:=o) (p:=p) (n:=q) (tl:=.non) (pt:=.cel []) (k:=3+1) q1 ho hp q2;have ql:=yx (n:=q) (by lia);have du:(Ö (tb<|L uL (M 4)<|eC<|.int 1) (È 5<|L dL (L dL (L dL (eC<|.str "1 0 ")<|eN iM<|C (M 2) Å)<|eC<|.str " ")<|eN iM<|C (M 2) Å) Ë) [U<|dk (N2 x y o p) .non (.cel [])<|3+1,gE<|ns.map .int,dA ((o+p:Nat):Int),dA ((j+1:Nat):Int),dA q,U<|.str "none"]=U (.nx [U<|dk (N2 x y o p) .non (.cel [])<|3+1,gE<|ns.map .int,dA ((o+p:Nat):Int),dA ((j+1:Nat):Int),dA q,U<|.str<|D0 o p q]):=by
  have l3:("1 0 ":Str).length=4:=by decide
  have l4:(" ":Str).length=1:=by decide
  unfold D0;by_cases e:q=1
  ·subst e;rw[if_pos rfl];exact qU (iQ<|fO rfl rfl rfl) rfl
  ·rw[if_neg e,Iw,←show("1 0 ":Str) = "1"++fW 32 ++ "0"++fW 32 by decide +kernel,←ug];refine xN (iQ<|fO rfl rfl<|(ub _ _).trans<|by rw[decide_eq_true<|by lia]) (zx<|xh (xh (xh rfl (ui rfl<|by lia)<|by lia) rfl<|by simp only[ya];lia) (ui rfl<|by lia)<|by simp only[ya];lia)
 have ok:dD.strOk (D0 o p q)=Â:=by
  unfold D0;split
  ·exact zw _
  ·exact I0 (by rw[←ug];exact zw _) λz hz=>by
    simp only[cP,dm,or_false]at hz;rcases hz with rfl|rfl|rfl|rfl
    ·exact zw _
    ·exact zw _
    ·exact uz _
    ·exact uz _
 unfold mL Ý;refine xr (zx hm)<|xr (DP (Et c1) rfl)<|xr (zx hq)<|xr (zx (d:=.str "none") rfl)<|xr du ?_;exact GM (Cd (i:=0) rfl (eD (xh rfl (ui rfl<|by lia)<|by lia) rfl) sa) rfl ok rfl
end
section
variable {x y:Str}{o p n w t:Nat}{k:Int}
theorem Y9 {j s:Nat}(hN:iZ [x,y])(ha:a<=1000000000000)(hn:j+1<=400):iU [.str<|A6 [x,y] (oC w a<|j+1) 0,.int ((j+1:Nat):Int),.str<|eA (va w a j:Int)]=U (.bl Â):=by obtain⟨S',N⟩:=Ms (x:=x) (y:=y) (w:=w) (n:=j+1) hN ha hn;exact Rr S' hN N (by simp[oC]) (by simp[oC])
theorem ϒ (hN:iZ [x,y])(ha:0<a)(D4:a<=1000000000000)(hw:w<=400):∃d,lG [dk (N2 x y o p) (T2 x y o p (o+p) t) (.cel [.tup [.int 0,.int w,.int a]]) k,.lst<|ns.map .int,dh [x,y],.int a,.int w]=U (.tup [.bl Â,d]):=by
 generalize hd:D.cel [.tup [.int 0,.int w,.int a]]=KK;have l1:("late ":Str).length=5:=by decide
 have l2:("fate ":Str).length=5:=by decide
 have l3:("give ":Str).length=5:=by decide
 have l4:(" ":Str).length=1:=by decide
 have l5:("ever ":Str).length=5:=by decide
 have xl:=wk (hN.ok x<|by simp);have yl:=wk (hN.ok y<|by simp);have wl:=yx (n:=w) (by lia);obtain⟨m,hm,m1,m2⟩:=jt (ns:=ns) (Y:=[U<|dk (N2 x y o p) (T2 x y o p (o+p) t) KK k,gE<|ns.map .int,U<|dh [x,y],dA a,dA w,G,G,G,G]) rfl 5 1 400 (mm:=400) rfl (by lia) (by lia) (by lia) (by lia) (by lia);obtain⟨j,rfl⟩:∃j,m=j+1:=⟨m-1,by lia⟩;have ml:=yx (n:=j+1) (by lia);have sr:=Qt (x:=x) (y:=y) (o:=o) (p:=p) (b:=o+p) (t:=t) (s:=0) (n:=j+1) (k:=k) hN rfl (.inl rfl) D4 m2<|PT.one (w:=w) (a:=a);rw[hd]at sr;have ls:=Y9 (x:=x) (y:=y) (w:=w) (a:=a) (j:=j) (s:=0) hN D4 m2;have va1:va w a j<=a:=by unfold va;split<;>lia
 have SS:(Ö (tb<|L wQ (M 4)<|M 5) (È 6<|M 3) Ë) [U<|dk (N2 x y o p) (T2 x y o p (o+p) t) KK k,gE<|ns.map .int,U<|dh [x,y],dA a,dA w,dA ((j+1:Nat):Int),dA 0,G,G]=U (.nx [U<|dk (N2 x y o p) (T2 x y o p (o+p) t) KK k,gE<|ns.map .int,U<|dh [x,y],dA a,dA w,dA ((j+1:Nat):Int),dA (va w a j:Int),G,G]):=by
  unfold va;by_cases e:w<=j
  ·rw[if_pos e];exact xN (iQ<|fO rfl rfl<|(ua _ _).trans<|by rw[decide_eq_true<|by lia])<|zx rfl
  ·rw[if_neg e];exact qU (iQ<|fO rfl rfl<|(ua _ _).trans<|by rw[decide_eq_false<|by lia]) rfl
 have c1:=Q1 (gs:=C (M 5)<|C (eN iM<|C (M 6) Å) Å) (mf:=iU) (Cd (i:=0) (gs:=C (L dL (eC<|.str "late ")<|eN iM<|C (M 5) Å) Å) (Y:=[U<|dk (N2 x y o p) (T2 x y o p (o+p) t) KK k,gE<|ns.map .int,U<|dh [x,y],dA a,dA w,dA ((j+1:Nat):Int),dA (va w a j:Int),G,G]) rfl (eD (xh rfl (ui rfl<|by lia)<|by lia) rfl) sr) (eD rfl<|eD (ui rfl<|by lia) rfl) ls;obtain⟨q,hq,q1,q2⟩:=jt (ns:=ns) (Y:=[U<|dk (N2 x y o p) (T2 x y o p (o+p) t) KK<|k+1,gE<|ns.map .int,U<|dh [x,y],dA a,dA w,dA ((j+1:Nat):Int),dA (va w a j:Int),G,G]) rfl 5 2 400 (mm:=400) rfl (by lia) (by lia) (by lia) (by lia) (by lia);have ql:=yx (n:=q) (by lia);have sf:=zrp (x:=x) (y:=y) (o:=o) (p:=p) (t:=t) (n:=q) (k:=k+1) hN q1 ha hw q2;rw[hd]at sf;have SU:(Ö (tb<|L wQ (M 4)<|M 7) (È 6<|L dL (L dL (L dL (eC<|.str "ever ")<|L eG (M 2)<|eC<|.int 0)<|eC<|.str " ")<|eN iM<|C (M 4) Å) Ë) [U<|dk (N2 x y o p) (T2 x y o p (o+p) t) KK<|k+1,gE<|ns.map .int,U<|dh [x,y],dA a,dA w,dA ((j+1:Nat):Int),U<|.str "none",dA q,G]=U (.nx [U<|dk (N2 x y o p) (T2 x y o p (o+p) t) KK<|k+1,gE<|ns.map .int,U<|dh [x,y],dA a,dA w,dA ((j+1:Nat):Int),U<|.str<|Do x w q,dA q,G]):=by
  unfold Do;by_cases e:w<q
  ·rw[if_pos e,BP,←show("ever ":Str) = "ever"++fW 32 by decide +kernel,←ug];exact xN (iQ<|fO rfl rfl<|(ua _ _).trans<|by rw[decide_eq_true<|by lia]) (zx<|xh (xh (xh rfl rfl<|by lia) rfl<|by simp only[ya];lia) (ui rfl<|by lia)<|by simp only[ya];lia)
  ·rw[if_neg e];exact qU (iQ<|fO rfl rfl<|(ua _ _).trans<|by rw[decide_eq_false<|by lia]) rfl
 have UI:dD.strOk (Do x w q)=Â:=by
  unfold Do;split
  ·exact I0 (by rw[←ug];exact zw _) λz hz=>by
    simp only[cP,dm,or_false]at hz;rcases hz with rfl|rfl|rfl
    ·exact zw _
    ·exact HD (hN.ok z<|by simp)
    ·exact uz _
  ·exact zw _
 obtain⟨g,hg,g1,g2⟩:=jt (ns:=ns) (Y:=[U<|dk (N2 x y o p) (T2 x y o p (o+p) t) KK<|k+1+1,gE<|ns.map .int,U<|dh [x,y],dA a,dA w,dA ((j+1:Nat):Int),U<|.str<|Do x w q,dA q,G]) rfl 5 3 60 (mm:=60) rfl (by lia) (by lia) (by lia) (by lia) (by lia);have gl:=yx (n:=g) (by lia);have sg:=zrq (x:=x) (y:=y) (o:=o) (p:=p) (t:=t) (n:=g) (k:=k+1+1) hN ha g2<|PT.one (w:=w) (a:=a);rw[hd]at sg;have SV:(Ö (tb<|L vV (M 4)<|M 8) (È 6<|eC<|.str "0") Ë) [U<|dk (N2 x y o p) (T2 x y o p (o+p) t) KK<|k+1+1,gE<|ns.map .int,U<|dh [x,y],dA a,dA w,dA ((j+1:Nat):Int),U<|.str "",dA q,dA g]=U (.nx [U<|dk (N2 x y o p) (T2 x y o p (o+p) t) KK<|k+1+1,gE<|ns.map .int,U<|dh [x,y],dA a,dA w,dA ((j+1:Nat):Int),U<|.str<|D3 w g,dA q,dA g]):=by
  unfold D3;by_cases e:w<=g
  ·rw[if_pos e];exact xN (iQ<|fO rfl rfl<|(u5 _ _).trans<|by rw[decide_eq_true<|by lia])<|zx rfl
  ·rw[if_neg e];exact qU (iQ<|fO rfl rfl<|(u5 _ _).trans<|by rw[decide_eq_false<|by lia]) rfl
 have UJ:dD.strOk (D3 w g)=Â:=by unfold D3;split<;>exact zw _
 refine⟨dk (N2 x y o p) (T2 x y o p (o+p) t) KK<|k+1+1+1,?_⟩;unfold lG Ý;refine xr (zx hm) (xr (zx (d:=.int 0) rfl)<|xr SS<|xr (DP (Et c1) rfl)<|xr (zx hq)<|xr (zx (d:=.str "none") rfl)<|xr SU<|xr (DP (FA (Cd (i:=0) rfl (eD (xh rfl (ui rfl<|by lia)<|by lia) rfl) sf) rfl UI) rfl)<|xr (zx hg)<|xr (zx (d:=.str "") rfl)<|xr SV ?_);exact GM (Cd (i:=0) rfl (eD (xh (xh (xh rfl rfl<|by lia) rfl<|by simp only[ya];lia) (ui rfl<|by lia)<|by simp only[ya];lia) rfl) sg) rfl UJ rfl
end
theorem zrs {x y:Str}(S':xD [x,y] Æ 0):uC (.str<|jZ [x,y] Æ 0 0) G (U 5)=U (.str "round"):=by
 have hl:=(Jt S' (k:=0)<|by lia).1;have e:∃q:List Nat,(jZ [x,y] Æ 0 0).cps.toList=("round":Str).cps.toList++q:=by
  rw[Hx<|by lia,ug];have l:oE [x,y] Æ 0 0=[lm [x,y] Æ 0 0 0,lm [x,y] Æ 0 1 0,lm [x,y] Æ 0 2 0]:=rfl;rw[l,join_list];have p0:lm [x,y] Æ 0 0 0=("round":Str)++qF 32 (Õ (ç [x,y] Æ 0 0)-5):=by unfold lm;rw[if_pos ⟨rfl,rfl⟩]
  rw[p0,xq,et];exact⟨_,rfl⟩
 obtain⟨q,hq⟩:=e;generalize jZ [x,y] Æ 0 0=K' at *;have h5:("round":Str).cps.toList.length=5:=by decide +kernel
 show(if K'.length<=16777216 then U (D.str<|Txt.slice K' G<|U 5)else G)=_;rw[if_pos<|by lia];refine congrArg (λz=>U<|D.str z)<|vc ?_;show(StrLaws.sliceText K' G<|U 5).cps.toList=_;rw[StrLaws.sliceText_to (j:=5) ⟨by lia,by rw[hq,ee,h5];lia⟩];show((K'.cps.toList.drop 0).take _)=_;rw[hq];show(("round":Str).cps.toList++q).take 5=_;rw[List.take_append_of_le_length<|by rw[h5];lia,gG<|by rw[h5];lia]
theorem So {op:D->D->Option D}{gm:EM}{g:EF}{d y v:D}(h1:gm Y=U (d,ρ'))(h2:g ρ'=U y)(h3:op d y=U v):CL op gm g Y=U (v,ρ'):=by unfold CL;rw[h1];show((g ρ').bind _)=_;rw[h2];show((op d y).bind _)=_;rw[h3];rfl
theorem Sr {p q:BM}{ρ2:L3.Env}(h1:p Y=U (Ã,ρ1))(h2:q ρ1=U (Ã,ρ2)):GL p q Y=U (Ã,ρ2):=by unfold GL;rw[h1];exact h2
theorem K7 {p:BF}{b:Bool}(h:p Y=U b):mT p Y=U (b,Y):=by unfold mT;rw[h];rfl
theorem Q2 {i:Nat}{p d p':D}(h0:M i Y=U p)(h1:gs Y=U es)(hc:nI p=Â)(h2:mf (p::es)=U (.tup [d,p'])):pG i gs mf Y=U (d,Y.set i<|U p'):=by unfold pG;rw[h0];show((gs Y).bind _)=_;rw[h1];show(if nI p=Â then(mf (p::es)).bind _ else G)=_;rw[if_pos hc,h2];rfl
theorem í {f:EF}{c m:Nat}{P:D->Prop}(h1:fs Y=U O)(h2:f Y=dA ((c%m:Nat):Int))(hm:O.length=m)(h0:0<m)(hP:∀d∈O,P d):∃d,L eG (λY=>(fs Y).bind λO=>(gE O)) f Y=U d/\P d:=by
 have hl:c%m<O.length:=by rw[hm];exact rW _ h0
 exact⟨O[c%m],fO (vz h1 rfl) h2<|wy<|dY hl,hP _<|lM hl⟩
theorem HG {b:Nat}(ha:a<1000)(hb:b<=1000):L oY (eC<|.int a) (eC<|.int b) Y=dA ((a ^ b:Nat):Int):=fO rfl rfl ((Ď (by lia) (by lia)<|by lia).trans (by
 rw[fK]
 rfl))
theorem Ŀ {x y:Str}{o p b t s:Nat}{k:Int}(hN:iZ [x,y])(h:b=o+p+s){r:List (Option D)}(h5:M 5 Y=U (dk (N2 x y o p) (T2 x y o p b t) (.cel []) k)):uV (iI Â) (λY=>((CL eG (CL nL (k7 5 6 "say" (C (eC<|.str "late 1") Å) dN)<|eC<|.str "\n")<|eC<|.int 0) Y).bind λr=>(ð r.2).bind λl=>((à<|eC<|.int 5) r.2).bind λh=>(uC r.1 l h).bind λd=>U (d,r.2)) (eC<|.str "round") Y=U (Ã,Y.set 5<|U<|dk (N2 x y o p) (T2 x y o p b t) (.cel [])<|k+1):=by obtain⟨S',N⟩:=Ms (x:=x) (y:=y) (w:=0) (a:=0) (n:=1) hN (by lia) (by lia);have sl:=Qt (x:=x) (y:=y) (o:=o) (p:=p) (b:=b) (t:=t) (s:=s) (w:=0) (a:=0) (n:=1) (k:=k) hN h (.inr rfl) (by lia) (by lia)<|PT.nil rfl;rw[show("late "++eA ((1:Nat):Int):Str) = "late 1" by decide +kernel]at sl;have sp:=PL S' hN N;have rd:=zrs S';have e1:=So (op:=eG) (g:=eC<|.int 0) (v:=.str<|jZ [x,y] (oC 0 0 1) 0 0) (So (op:=nL) (g:=eC<|.str "\n") (Cd (i:=5) (gs:=C (eC<|.str "late 1") Å) h5 rfl sl) rfl sp) rfl rfl;generalize jZ [x,y] (oC 0 0 1) 0 0=K' at *;refine FA (d:="round") ?_ rfl<|zw _;show(dX (CL eG _ _ Y) _)=_;rw[e1];show(dX (uC (.str K') G<|U 5) _)=_;rw[rd];rfl
theorem zrt (ns:List Int)(_:ns.length<=63):BC [.lst<|ns.map .int]=U (.bl Â):=by
 obtain⟨c0,h0⟩:=HF ns 0 (by lia);obtain⟨nl,Ub,ln,hN⟩:=ϫ c0 (mv:=2) (by lia);obtain⟨x,y,rfl⟩:∃x y,nl=[x,y]:=by
  match nl,ln with
  |[x,y],_=>exact⟨x,y,rfl⟩
 obtain⟨c1,h1⟩:=HF ns 1 (by lia);obtain⟨r1,Ia,_⟩:=Jc c1 (k:=1) (by lia) (by lia);obtain⟨c2,h2⟩:=HF ns 2 (by lia);obtain⟨r2,Ib,_⟩:=Jc c2 (k:=1) (by lia) (by lia);obtain⟨c4,h4⟩:=HF ns 4 (by lia);obtain⟨r4,Ue,_⟩:=Jc c4 (k:=1) (by lia) (by lia);have pk:∀Y:L3.Env,M 2 Y=dA r1->∃m:Nat,L eG (λY=>((C (eC<|.int 10)<|C (L dL (L oY (eC<|.int 10)<|eC<|.int 9)<|eC<|.int 1) Å) Y).bind λO=>(gE O)) (L iA (M 2)<|eC<|.int 2) Y=dA m/\0<m/\m<=1000000001:=by
  intro Y h;obtain⟨d,hd,m,rfl,b1,b2⟩:=í (f:=L iA (M 2)<|eC<|.int 2) (Y:=Y) (fs:=C (eC<|.int 10)<|C (L dL (L oY (eC<|.int 10)<|eC<|.int 9)<|eC<|.int 1) Å) (P:=λd=>∃m:Nat,d=.int m/\0<m/\m<=1000000001) (eD (d:=.int ((10:Nat):Int)) rfl<|eD (d:=.int ((1000000001:Nat):Int)) (fO (op:=dL) (HG (a:=10) (b:=9) (by lia)<|by lia) rfl rfl) rfl) (Bc (b:=2) h rfl<|by lia) rfl (by lia) (by
    intro d hd;simp only[cP,dm,or_false]at hd;rcases hd with rfl|rfl
    ·exact⟨10,rfl,by lia,by lia⟩
    ·exact⟨1000000001,rfl,by lia,by lia⟩)
  exact⟨m,hd,b1,b2⟩
 generalize hS:D.lst (ns.map .int)=W' at *;obtain⟨m1,e1,b1,b1'⟩:=pk [U W',U<|dh [x,y],dA r1,G,G,G,G,G,G,G,G] rfl;generalize ho:r1/2%m1=o;have Ec:o<=1000000000:=by have:=rW (r1/2) b1;lia
 have s3:L iA (L iD (M 2)<|eC<|.int 2) (L eG (λY=>((C (eC<|.int 10)<|C (L dL (L oY (eC<|.int 10)<|eC<|.int 9)<|eC<|.int 1) Å) Y).bind λO=>(gE O))<|L iA (M 2)<|eC<|.int 2) [U W',U<|dh [x,y],dA r1,G,G,G,G,G,G,G,G]=dA (o:Int):=by rw[←ho];exact Bc (DT (b:=2) rfl rfl (by lia)<|by lia) e1 b1
 obtain⟨m2,SX,b2,b2'⟩:=pk [U W',U<|dh [x,y],dA r1,dA o,G,G,G,G,G,G,G] rfl;generalize hp:r2%m2=p;have HZ:p<=1000000000:=by have:=rW r2 b2;lia
 have s4:L iA (cl fI<|C (cl eS<|C (M 0)<|C (eC<|.int 2) Å)<|C (eC<|.int 1) Å) (L eG (λY=>((C (eC<|.int 10)<|C (L dL (L oY (eC<|.int 10)<|eC<|.int 9)<|eC<|.int 1) Å) Y).bind λO=>(gE O))<|L iA (M 2)<|eC<|.int 2) [U W',U<|dh [x,y],dA r1,dA o,G,G,G,G,G,G,G]=dA (p:Int):=by rw[←hp];exact Bc (zy (eD (zy (eD rfl<|eD rfl rfl) h2)<|eD rfl rfl) Ib) SX b2
 have bg:=ϔ (x:=x) (y:=y) (o:=o) (p:=p) (W':=W') hN Ec HZ;have fr:=ŀ (x:=x) (y:=y) (o:=o) (p:=p) (ns:=ns) hN Ec HZ;rw[hS]at fr;have c6:=Q2 (i:=5) (gs:=C (M 0)<|C (L dL (M 3)<|M 4) Å) (mf:=mL) (Y:=[U W',U<|dh [x,y],dA r1,dA o,dA p,U<|dk (N2 x y o p) .non (.cel []) 3,G,G,G,G,G]) rfl (eD rfl<|eD (d:=.int ((o+p:Nat):Int)) rfl rfl) rfl fr;obtain⟨d7,s7,t,rfl,ht⟩:=í (f:=L iA (L iD (M 2)<|eC<|.int 4)<|eC<|.int 3) (Y:=[U W',U<|dh [x,y],dA r1,dA o,dA p,U<|dk (N2 x y o p) .non (.cel []) 5,G,G,G,G,G]) (fs:=C (eC<|.int 0)<|C (L kx (L oY (eC<|.int 10)<|eC<|.int 12)<|M 3)<|C (L kx (L kx (L oY (eC<|.int 10)<|eC<|.int 12)<|M 3)<|L iA (L iD (M 2)<|eC<|.int 8)<|eC<|.int 1000) Å) (P:=λd=>∃m:Nat,d=.int m/\m+o<=1000000000000)
  (eD (d:=.int ((0:Nat):Int)) rfl<|eD (d:=.int ((1000000000000-o:Nat):Int)) (fO (op:=kx) (HG (a:=10) (b:=12) (by lia)<|by lia) rfl<|(ut _ _).trans (by rw[show((1000000000000-o:Nat):Int)=((10 ^ 12:Nat):Int)-(o:Int)by lia]))<|eD (d:=.int ((1000000000000-o-r1/8%1000:Nat):Int)) (fO (op:=kx) (fO (op:=kx) (HG (a:=10) (b:=12) (by lia)<|by lia) rfl rfl) (Bc (b:=1000) (DT (b:=8) rfl rfl (by lia)<|by lia) rfl<|by lia)<|(ut _ _).trans (by rw[show((1000000000000-o-r1/8%1000:Nat):Int)=((10 ^ 12:Nat):Int)-(o:Int)-((r1/8%1000:Nat):Int)by lia])) rfl) (Bc (b:=3) (DT (b:=4) rfl rfl (by lia)<|by lia) rfl<|by lia) rfl (by lia) (by
   intro d hd;simp only[cP,dm,or_false]at hd;rcases hd with rfl|rfl|rfl
   ·exact⟨0,rfl,by lia⟩
   ·exact⟨_,rfl,by lia⟩
   ·exact⟨_,rfl,by lia⟩)
 have l4:(" ":Str).length=1:=by decide
 have tl:=yx (n:=t) (by lia);have tl2:=yx (n:=t+o) (by lia);generalize hT:(" "++eA t ++ " "++eA ((t+o:Nat):Int):Str)=T;have hTl:T.length<=40:=by rw[←hT];simp only[ya];lia
 have s8:L dL (L dL (L dL (eC<|.str " ")<|eN iM<|C (M 6) Å)<|eC<|.str " ") (eN iM<|C (L dL (M 6)<|M 3) Å) [U W',U<|dh [x,y],dA r1,dA o,dA p,U<|dk (N2 x y o p) .non (.cel []) 5,dA t,G,G,G,G]=U (.str T):=by rw[←hT];exact xh (xh (xh rfl (ui rfl<|by lia)<|by lia) rfl<|by simp only[ya];lia) (ui (n:=t+o) (fO rfl rfl rfl)<|by lia) (by simp only[ya];lia)
 have p1:=QZ (x:=x) (y:=y) (o:=o) (p:=p) (b:=1000000000000) (t:=t) (s:=1000000000000-o-p) (tl:=.non) (pt:=.cel []) (k:=5) (by lia) (by lia) ht;rw[hT,←show("plan 1000000000000":Str) = "plan "++eA ((1000000000000:Nat):Int)by decide +kernel]at p1;have p2:=QZ (x:=x) (y:=y) (o:=o) (p:=p) (b:=o+p) (t:=t) (s:=0) (tl:=T2 x y o p 1000000000000 t) (pt:=.cel []) (k:=5+1+1) rfl (by lia) ht;rw[hT]at p2;have lp:("plan 1000000000000":Str).length=18:=by decide +kernel
 have lp2:("plan ":Str).length=5:=by decide
 have lpu:("put ":Str).length=4:=by decide
 have xl:=wk (hN.ok x<|by simp);have opl:=yx (n:=o+p) (by lia);have SK:=FA (d:="ok") (g:=eC<|.str "ok") (Cd (i:=5) (gs:=C (L dL (eC<|.str "plan 1000000000000")<|M 7) Å) (Y:=[U W',U<|dh [x,y],dA r1,dA o,dA p,U<|dk (N2 x y o p) .non (.cel []) 5,dA t,U<|.str T,G,G,G]) rfl (eD (xh rfl rfl<|by lia) rfl) p1) rfl<|zw _;have SJ:=Ŀ (x:=x) (y:=y) (o:=o) (p:=p) (b:=1000000000000) (t:=t) (s:=1000000000000-o-p) (k:=5+1) (r:=[]) hN (by lia) (Y:=[U W',U<|dh [x,y],dA r1,dA o,dA p,U<|dk (N2 x y o p) (T2 x y o p 1000000000000 t) (.cel [])<|5+1,dA t,U<|.str T,G,G,G]) rfl;have SM:=FA (d:="ok") (g:=eC<|.str "ok") (Cd (i:=5) (gs:=C (L dL (L dL (eC<|.str "plan ")<|eN iM<|C (L dL (M 3)<|M 4) Å)<|M 7) Å) (Y:=[U W',U<|dh [x,y],dA r1,dA o,dA p,U<|dk (N2 x y o p) (T2 x y o p 1000000000000 t) (.cel [])<|5+1+1,dA t,U<|.str T,G,G,G]) rfl (eD (xh (xh rfl (ui (n:=o+p) (fO rfl rfl rfl)<|by lia)<|by lia) rfl<|by simp only[ya];lia) rfl) p2) rfl<|zw _;obtain⟨d9,s9,a,rfl,ha,D4⟩:=í (f:=L iA (M 8)<|eC<|.int 2) (Y:=[U W',U<|dh [x,y],dA r1,dA o,dA p,U<|dk (N2 x y o p) (T2 x y o p (o+p) t) (.cel [])<|5+1+1+1,dA t,U<|.str T,dA r4,G,G]) (fs:=C (L oY (eC<|.int 10)<|eC<|.int 12)<|C (L dL (eC<|.int 1)<|L iA (L iD (M 8)<|eC<|.int 4)<|L oY (eC<|.int 10)<|eC<|.int 12) Å) (P:=λd=>∃m:Nat,d=.int m/\0<m/\m<=1000000000000)
  (eD (HG (a:=10) (b:=12) (by lia)<|by lia)<|eD (d:=.int ((1+r4/4%10 ^ 12:Nat):Int)) (fO (op:=dL) rfl (Bc (DT (b:=4) rfl rfl (by lia)<|by lia) (HG (a:=10) (b:=12) (by lia)<|by lia)<|by lia)<|(Č _ _).trans (by rw[show((1+r4/4%10 ^ 12:Nat):Int)=1+((r4/4%10 ^ 12:Nat):Int)by lia])) rfl) (Bc (b:=2) rfl rfl<|by lia) rfl (by lia) (by
   intro d hd;simp only[cP,dm,or_false]at hd;rcases hd with rfl|rfl
   ·exact⟨10 ^ 12,rfl,by lia,by lia⟩
   ·exact⟨_,rfl,by lia,by lia⟩)
 obtain⟨d10,Lm,w,rfl,hw⟩:=í (f:=L iA (L iD (M 8)<|eC<|.int 2)<|eC<|.int 4) (Y:=[U W',U<|dh [x,y],dA r1,dA o,dA p,U<|dk (N2 x y o p) (T2 x y o p (o+p) t) (.cel [])<|5+1+1+1,dA t,U<|.str T,dA r4,dA a,G]) (fs:=C (eC<|.int 400)<|C (eC<|.int 399)<|C (L iA (L iD (M 8)<|eC<|.int 64)<|eC<|.int 401)<|C (L iA (L iD (M 8)<|eC<|.int 64)<|eC<|.int 61) Å) (P:=λd=>∃m:Nat,d=.int m/\m<=400)
  (eD (d:=.int ((400:Nat):Int)) rfl<|eD (d:=.int ((399:Nat):Int)) rfl<|eD (Bc (b:=401) (DT (b:=64) rfl rfl (by lia)<|by lia) rfl<|by lia)<|eD (Bc (b:=61) (DT (b:=64) rfl rfl (by lia)<|by lia) rfl<|by lia) rfl) (Bc (b:=4) (DT (b:=2) rfl rfl (by lia)<|by lia) rfl<|by lia) rfl (by lia) (by
   intro d hd;simp only[cP,dm,or_false]at hd;rcases hd with rfl|rfl|rfl|rfl
   ·exact⟨400,rfl,by lia⟩
   ·exact⟨399,rfl,by lia⟩
   ·exact⟨_,rfl,by lia⟩
   ·exact⟨_,rfl,by lia⟩)
 have wl:=yx (n:=w) (by lia);have al:=yx (n:=a) (by lia);have pu:=ϕ (x:=x) (y:=y) (o:=o) (p:=p) (w:=w) (a:=a) (tl:=T2 x y o p (o+p) t) (k:=5+1+1+1) hN hw D4;have SO:=FA (d:="ok") (g:=eC<|.str "ok") (Cd (i:=5) (gs:=C (L dL (L dL (L dL (L dL (L dL (eC<|.str "put ")<|L eG (M 1)<|eC<|.int 0)<|eC<|.str " ")<|eN iM<|C (M 10) Å)<|eC<|.str " ")<|eN iM<|C (M 9) Å) Å) (Y:=[U W',U<|dh [x,y],dA r1,dA o,dA p,U<|dk (N2 x y o p) (T2 x y o p (o+p) t) (.cel [])<|5+1+1+1,dA t,U<|.str T,dA r4,dA a,dA w]) rfl (eD (xh (xh (xh (xh (xh rfl rfl<|by lia) rfl<|by simp only[ya];lia) (ui rfl<|by lia)<|by simp only[ya];lia) rfl<|by simp only[ya];lia) (ui rfl<|by lia)<|by simp only[ya];lia) rfl) pu) rfl<|zw _;obtain⟨dd,lt⟩:=ϒ (x:=x) (y:=y) (o:=o) (p:=p) (t:=t) (w:=w) (a:=a) (k:=5+1+1+1+1) (ns:=ns) hN ha D4 hw;rw[hS]at lt;have cl:=Q2 (i:=5) (gs:=C (M 0)<|C (M 1)<|C (M 9)<|C (M 10) Å) (mf:=lG) (Y:=[U W',U<|dh [x,y],dA r1,dA o,dA p,U<|dk (N2 x y o p) (T2 x y o p (o+p) t) (.cel [.tup [.int 0,.int w,.int a]])<|5+1+1+1+1,dA t,U<|.str T,dA r4,dA a,dA w]) rfl (eD rfl<|eD rfl<|eD rfl<|eD rfl rfl) rfl lt;unfold BC Ï;refine zn (zx<|zy (eD (zy (eD rfl<|eD rfl rfl) h0)<|eD rfl rfl) Ub) ?_;refine zn (zx<|zy (eD (zy (eD rfl<|eD rfl rfl) h1)<|eD rfl rfl) Ia) ?_;refine zn (zx s3)<|zn (zx s4)<|zn (zx<|zy (eD rfl<|eD rfl<|eD rfl<|eD rfl rfl) bg) ?_;refine zn (DP (Sr (K7<|iQ rfl)<|Et c6) rfl)<|zn (zx s7)<|zn (zx s8) ?_;refine zn (DP (Sr SK SJ) rfl)<|zn (DP SM rfl) ?_;refine zn (zx<|zy (eD (zy (eD rfl<|eD rfl rfl) h4)<|eD rfl rfl) Ue)<|zn (zx s9)<|zn (zx Lm)<|zn (DP SO rfl) ?_;show(dX (dX (pG 5 _ lG _) _) _)=_;refine(congrArg (λz=>dX (dX z _) _) cl).trans rfl
section
variable {P:eL}{w:d8}{base:c7}{a:ă}
theorem ľ (T:Txt K mg a w):dR P w K mg base fQ 10 a.cH a.cI ["_law_script"] (vO K):=Ų (Η T) zrt
end
theorem fin {l:sP}{w:d8}{fa:cN}{a:ă}(TZ:mg "law"=U (.ref fa))(T:Txt K mg a w)(b:∀(s:cU) (v:cJ),uF s a.cI ⟨[v],[]⟩ [("_law_script",v)]) :
  ∃fd:cT,(∀(s:cU) (v:cJ),uF s fd ⟨[v],[]⟩ [("_law_script",v)])/\∀base:c7,K.In base->base.Ns eI mg->dR l.prog w K mg base fQ 10 fa fd ["_law_script"] (vO K):=by
 cases TZ.symm.trans T.bo.mgx;exact⟨_,b,λ_ _ _=>ľ T⟩
theorem walk {l:sP}{q:eL}{loose:List Str}{XP:(Str->Option cJ)->c7->Prop}{YP:d8->c7->Prop}{d:DefRec}{K:Params->cL}(hn:l.most=U 63)(Gm:d.params.defaults=[])
  (hY:∀(w:d8) (h:c7),YP w h->(K w.params).In h)
  (F:∀(w:d8) (mg:Str->Option cJ) (fa:cN) (h:c7),(K w.params).In h->h.Ns eI mg->mg d.name=U (.ref fa) ->
   ∃fd:cT,(∀(s:cU) (u:cJ),uF s fd ⟨[u],[]⟩ [("_law_script",u)])/\∀base:c7,(K w.params).In base->base.Ns eI mg->dR l.prog w (K w.params) mg base fQ 10 fa fd ["_law_script"] (vO<|K w.params)) :
  Bi q loose XP YP l.row.toRowW d [] (λf vs=>PySem.call f vs) :=
 L2.ü (n:=63) (k:=10) (x:="_law_script") (CX:=λ_=>fQ) (sp:=λw=>vO<|K w.params) hn (by decide) Gm ⟨rfl,by decide,by decide,rfl⟩ hY F (λ_ _ a ns hl _ hS=>⟨a,ns,rfl,hS,hl,λ_=>rfl⟩) λ_ _ _ _ _ z=>z
end My
-- KEEP
local macro_rules | `(tactic| walk_at "zk") => `(tactic| focus (repeat' first | k_is | apply L3.Ğ (by assumption) (by assumption) | exact .non | exact .int | exact .str | apply L3.KC.kt | apply L3.û.nil | apply L3.û.cons | exact Nat.le_of_ble_eq_true rfl | rfl))
local macro_rules | `(tactic| walk_at "zg") => `(tactic| focus (repeat' first | k_is | apply L3.Ĝ (by assumption) (by assumption) | apply L3.KL.nil | apply L3.KL.cons | exact L2.EL.nil | apply L2.EL.cons | exact .non | exact .int | exact .str | apply L3.KC.kt | apply L3.û.nil | apply L3.û.cons | exact Nat.le_of_ble_eq_true rfl | rfl))
local macro_rules | `(tactic| walk_at "zf") => `(tactic| focus (repeat' first | k_is | apply L3.ĝ (by assumption) (by assumption) | exact trivial | apply And.intro | exact L2.EL.nil | apply L2.EL.cons | exact .non | exact .int | exact .str | apply L3.KC.kt | apply L3.û.nil | apply L3.û.cons | exact Nat.le_of_ble_eq_true rfl | rfl))
open PySem PySem.W PyProof.Rows
set_option maxRecDepth 100000 in
set_option maxHeartbeats 0 in
theorem PySem.Challenge.cw_ringbeat_k89_greatest_counts_holds : PySem.Challenge.rw_ringbeat_k89_greatest_counts.Holds := by
 refine PySem.Challenge.hd ?_
 w_on
 k_fill
 refine My.walk (l := PySem.Challenge.rw_ringbeat_k89_greatest_counts) rfl rfl (fun w h Y' => PySem.W.kIn_of Y') ?F
 case F =>
  intro w mg fa h KX V' hmg
  refine' My.fin (a := .mk ..) hmg ?T ?b
  case T =>
   constructor
   all_goals try dsimp only [My.ă.ct]
   iterate 7 exact L3.zC
   exact L3.zM
   exact L3.zM (b := L3.zE 5 (L3.ć fun _ _ _ _ _ => ⟨_, rfl, rfl⟩))
   (refine' L3.ö 4 0 rfl rfl ?r1 ?r2 ?r3 ?r4; (case r1 => k_is); (case r2 => rfl); (case r3 => exact (.cons ⟨_, rfl⟩ .nil)); (case r4 => exact L3.ā fun _ _ _ _ => ⟨_, rfl, rfl⟩))
   exact L3.zM (b := L3.zE 5 (L3.ć fun _ _ _ _ _ => ⟨_, rfl, rfl⟩))
   (refine' L3.ö 4 0 rfl rfl ?r1 ?r2 ?r3 ?r4; (case r1 => k_is); (case r2 => rfl); (case r3 => exact (.cons ⟨_, rfl⟩ .nil)); (case r4 => exact L3.ā fun _ _ _ _ => ⟨_, rfl, rfl⟩))
   iterate 8 exact L3.zD
   iterate 4 exact L3.zM
   iterate 13 exact L3.zD
   exact L3.zD (b := L3.zE 4 (L3.ā fun _ _ _ _ => ⟨_, rfl, rfl⟩))
   (refine' L3.ö 3 1 rfl rfl ?r1 ?r2 ?r3 ?r4; (case r1 => k_is); (case r2 => rfl); (case r3 => exact (.cons rfl .nil)); (case r4 => exact L3.ą fun _ _ _ => ⟨_, rfl, rfl⟩))
   (refine' L3.ö 2 0 rfl rfl ?r1 ?r2 ?r3 ?r4; (case r1 => k_is); (case r2 => rfl); (case r3 => exact (.cons rfl (.cons rfl .nil))); (case r4 => exact L3.Ĉ fun _ _ => ⟨_, rfl, rfl⟩))
   iterate 8 exact L3.zD
   exact L3.zD (b := L3.zE 3 (L3.ą fun _ _ _ => ⟨_, rfl, rfl⟩))
   (refine' L3.ö 2 0 rfl rfl ?r1 ?r2 ?r3 ?r4; (case r1 => k_is); (case r2 => rfl); (case r3 => exact (.cons rfl .nil)); (case r4 => exact L3.Ĉ fun _ _ => ⟨_, rfl, rfl⟩))
   iterate 2 exact L3.zM
   iterate 2 exact L3.zD
   exact L3.zD (b := L3.zE 4 (L3.ā fun _ _ _ _ => ⟨_, rfl, rfl⟩))
   (refine' L3.ö 3 0 rfl rfl ?r1 ?r2 ?r3 ?r4; (case r1 => k_is); (case r2 => rfl); (case r3 => exact (.cons rfl .nil)); (case r4 => exact L3.ą fun _ _ _ => ⟨_, rfl, rfl⟩))
   iterate 3 exact L3.zD
   iterate 3 exact L3.zM
   iterate 26 exact L3.zD
   iterate 2 exact L3.zM
   iterate 9 exact L3.zD
   iterate 2 walk_at "zk"
   walk_at "zg"
   walk_at "zf"
   exact ⟨by k_is, by k_is, by k_is⟩
   iterate 12 ((repeat refine L3.zF ?_); exact L3.þ)
   iterate 2 ((repeat refine L3.zI ?_); exact L3.þ)
   iterate 13 exact L3.zB
   iterate 8 exact L3.zG
  exact fun s v => .of_eq rfl
