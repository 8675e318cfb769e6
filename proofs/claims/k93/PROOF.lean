import PyProof.Rows.All
import Wide.All
import KE.KDictOf
import KE.LcSums
import KE.KRevIter
import KE.KDictList
import KE.KUnpack
import KE.KSortTup
import KE.KIntText
import KE.KTryMore
import KE.KFromBytes
import Wide.FinOn
import KE.RegKIsAll
import Lean
import PySem.Challenge.RW_ringbeat_k93_whole_text_again
set_option Elab.async false
set_option linter.all false
set_option compiler.extract_closed false
set_option genSizeOf false
set_option maxRecDepth 100000
set_option maxHeartbeats 4000000
set_option bootstrap.genMatcherCode false
noncomputable section
namespace PySem.W.Fast
def tw5976814417994148508:=True
def tw86688857714089130:=True
def tw627726345350196685:=True
def tw2800181990859139613:=True
def tw16079007731994276664:=True
def tw10772818868665817535:=True
def tw8661022975843002404:=True
def tw17797163926503162155:=True
def tw182905923901357201:=True
def tw7752817139643040733:=True
def tw4254759905417533751:=True
def tw788171203658247390:=True
def tw14339529208003565878:=True
def tw7380235708987649732:=True
def tw7034210877552506758:=True
def tw1060621554623183737:=True
def tw1499579060393644250:=True
def tw3414255953753146940:=True
def tw15103196933885404208:=True
def tw10324395217752263966:=True
def tw4311045786178695364:=True
def tw5378617225409959615:=True
def tw16748815379967743920:=True
def tw11807406346936085521:=True
def tw4946081294891487769:=True
def tw892925065853493074:=True
def tw16154165155259212596:=True
def tw1636437973035628045:=True
def tw12028743017661600286:=True
def tw10504807266939205194:=True
def tw5944185585537959212:=True
def tw15758072252899994852:=True
def tw10773652975930724052:=True
def tw13684144401546483465:=True
def tw13479723464530289419:=True
def tw7591402778804540754:=True
def tw16113817976569302998:=True
def tw14090385409373060308:=True
def tw9416184833524916236:=True
def tw9271154973312445042:=True
def tw17497941776243628536:=True
def tw15889324608312700293:=True
def tw3019804113327870093:=True
def tw16053474179407470792:=True
def tw6885417997323685665:=True
def tw10528329575175989489:=True
def tw5411003956406534453:=True
def tw8196195666580471532:=True
def tw11469334421339384107:=True
def tw7251443471336825237:=True
def tw1892042795490359217:=True
def tw18397641487235831338:=True
def tw1727791878702259216:=True
def tw6548796103926503325:=True
def tw8111453790866861684:=True
def tw16128354933151589658:=True
def tw4364673132216959011:=True
def tw12321291507954470753:=True
def tw1289918030350041557:=True
def tw1743526695073756365:=True
def tw10259451402025930348:=True
def tw1937469806037057344:=True
def tw17143407186312659183:=True
def tw11636405052187859974:=True
def tw12173054268481260082:=True
def tw2043623902123591976:=True
def tw4590584190604014853:=True
def tw7412153678192698180:=True
def tw6372668014499622775:=True
def tw9887084238740129302:=True
def tw9684001121172112941:=True
def tw9961523598744190652:=True
def tw7382687861121063764:=True
def tw14941415076483763962:=True
def tw9886328818518206503:=True
def tw13116331839231238369:=True
def tw4207228345475268395:=True
def tw13434714201406150082:=True
def tw6417114107682748568:=True
def tw15641323515649296801:=True
def tw463592959530538751:=True
def tw3916154650032958175:=True
def tw2727684065509078607:=True
def tw11322498308438654321:=True
def tw12379889116212122844:=True
def tw9985005617883165880:=True
def tw1956258353439967718:=True
def tw5910731478065362957:=True
def tw2275575483964367031:=True
def tw17332518857721784942:=True
def tw14315837904086471839:=True
def tw14037694604911994256:=True
def tw12732305860837895686:=True
def tw6170367583411503908:=True
def tw13990669968718451782:=True
def tw13753770256047743529:=True
def tw3907024656319693505:=True
def tw11183994510384506652:=True
def tw10934534130727672278:=True
def tw9876074290042493308:=True
def tw2455187189852508131:=True
def tw17118253508128766438:=True
def tw2840067420705515552:=True
def tw14661304836092294630:=True
def tw10006582616897081145:=True
def tw12917268675175502785:=True
def tw14743261847208913739:=True
def tw7014686596129358684:=True
def tw17444380912093417342:=True
def tw8939254977868589530:=True
def tw359321831430071410:=True
def tw914831012822313769:=True
def tw11448335492297295390:=True
def tw10613362952539325962:=True
def tw14061697006318744936:=True
def tw12255901566760406382:=True
def tw6232540265587663372:=True
def tw981816797675697407:=True
def tw12982247176181451512:=True
def tw477278278626943094:=True
def tw16605254171821909955:=True
def tw11621487736690556531:=True
def tw12426052869174793394:=True
def tw15329939269000645752:=True
def tw507852180776508639:=True
def tw5810339231678414005:=True
def tw13041258484249540081:=True
def tw8601108426291674740:=True
def tw9069822407734730701:=True
def tw14664013538915446081:=True
def tw5352329410314296844:=True
def tw10292563190655081119:=True
def tw10402844070324459780:=True
def tw8758104930039445516:=True
def tw6630336408239595940:=True
def tw18060354217218886324:=True
def tw9900519664884561676:=True
def tw9072905308926727421:=True
def tw6682743757939456685:=True
def tw6120636570190819811:=True
def tw18117742892007229862:=True
def tw12464250390800134317:=True
def tw1061491778649283258:=True
def tw834236281615135995:=True
def tw17527557582173027222:=True
def tw3762208554546127370:=True
def tw10559147290554872940:=True
def tw12182866303423332723:=True
def tw14483600696691279221:=True
def tw5457194228992512469:=True
def tw17162598796963906856:=True
def tw2625744509549955231:=True
def tw257007925046296281:=True
def tw16562205827157788010:=True
def tw9607932775745873211:=True
def tw13498969387517174907:=True
def tw2889393673944038370:=True
def tw1246186251144729147:=True
def tw7415843702103683986:=True
def tw17444010266883156889:=True
def tw9289646308057276970:=True
def tw6973801746104949609:=True
def tw9697083327175095579:=True
def tw5635194851160491144:=True
def tw9384609303797726738:=True
def tw14657490945362595769:=True
def tw10952994608498245626:=True
def tw9363833089418762066:=True
def tw13279466509784814390:=True
def tw1107560498601478883:=True
def tw15752224129997259539:=True
def tw14424504578027385112:=True
def tw229915819631643194:=True
def tw15580656591449547051:=True
def tw4142816124901501335:=True
def tw10872897953760387269:=True
def tw15662251291172155750:=True
def tw13806005938606116666:=True
def tw7914255198886259602:=True
def tw6943184647599026698:=True
def tw5456734918626308276:=True
def tw3402219579754563298:=True
def tw17298728687398095427:=True
def tw1642990158979385037:=True
def tw3834278152298978124:=True
def tw16506891633611626718:=True
def tw18418203492820227725:=True
def tw14231576204047518865:=True
def tw6704996971759313750:=True
def tw6152654555808454090:=True
def tw13563583082654832532:=True
def tw5685012889404086773:=True
def tw17092551848753475930:=True
def tw8582187477388120129:=True
def tw13617065567282735415:=True
def tw6181454193412669305:=True
def tw8051413445001525745:=True
def tw3080848276900061889:=True
def tw17710913405590922262:=True
def tw15705121017984880494:=True
def tw1043601662304973101:=True
def tw15556859418065378706:=True
def tw9438230212828485173:=True
def tw7975098435261551387:=True
def tw293431403705018295:=True
def tw4473579790951008519:=True
def tw2721133407773851896:=True
def tw12412905107561893832:=True
def tw17426253050614115887:=True
def tw4474980687375805942:=True
def tw12635601625792491235:=True
def tw1160215725700746923:=True
def tw15113431946868946781:=True
def tw13228637998752459741:=True
def tw10869685419237273542:=True
def tw9484157083819412839:=True
def tw534318095337744627:=True
def tw3157655322189342288:=True
def tw8545714031911281488:=True
def tw4298161980399558617:=True
def tw4231637213880009443:=True
def tw7265738662454612163:=True
def tw11912097832835978016:=True
def tw3774675152102806515:=True
def tw4070085282449365194:=True
def tw13058559202471719080:=True
def tw17294580678671505419:=True
def tw7855795817619962177:=True
def tw4087206373667485235:=True
def tw18262248704349862890:=True
def tw7277085803532977429:=True
def tw18437486690731628253:=True
def tw5831640473916644875:=True
def tw9813375126475462952:=True
def tw10671330749276878564:=True
def tw14951182121656273819:=True
def tw5054211826042010861:=True
def tw7866946042475468459:=True
def tw10808931265645727203:=True
def tw13753215715316257843:=True
def tw2244945325512741758:=True
def tw16324268897721668477:=True
def tw8541307956981763652:=True
def tw16047095151376743677:=True
def tw174213981138398411:=True
def tw15298685913979700106:=True
def tw2756474420709086835:=True
def tw16805604767622783124:=True
def tw11101490830900998463:=True
def tw11565101880229420232:=True
def tw4470816274328511604:=True
def tw16712392565524124088:=True
def tw2743018431186529800:=True
def tw8604257043265508281:=True
def tw1929649262345978189:=True
def tw18443637179730648005:=True
def tw1465708796042303730:=True
def tw13403801707511953320:=True
def tw18217624933342418077:=True
def tw6648691617408665974:=True
def tw3670247280269394975:=True
def tw4218573704830435382:=True
def tw3638776332105225423:=True
def tw13382811022291172425:=True
def tw8414118510264235524:=True
def tw7994811133207094303:=True
def tw9405881102905124555:=True
def tw6034497367434170786:=True
def tw16695293420153542750:=True
def tw626696500009388147:=True
def tw9419729269623698746:=True
def tw18171102841955170268:=True
def tw10805403942848629616:=True
def tw9849417791331918024:=True
def tw13531973729058331039:=True
def tw3115782701454796461:=True
def tw5928626875851777850:=True
def tw7921085658859955724:=True
def tw13284527500695403464:=True
def tw18413439416196067265:=True
def tw14124977497012925699:=True
def tw17956174282920656353:=True
def tw6263593565387435112:=True
def tw15118314276396539117:=True
def tw11644147226741795092:=True
def tw12311829100406865112:=True
def tw7405901149790420175:=True
def tw7838669319408505745:=True
def tw6148594477495783982:=True
def tw5672314666978330176:=True
def tw4563828821813134428:=True
def tw16977315618606346005:=True
def tw7244785942698242820:=True
def tw11429753012899440513:=True
def tw4376666790780293573:=True
def tw12418259020175671862:=True
def tw6085769415541586026:=True
def tw8822675430000383945:=True
def tw12938226987065297314:=True
def tw14785113644163316884:=True
def tw2449584457684994207:=True
def tw1932568956964120650:=True
def tw261540769544123157:=True
def tw1798489981756054255:=True
def tw3043594352750699216:=True
def tw7879725201748948576:=True
def tw3310211710763114205:=True
def tw18263524401328986939:=True
def tw7527799060842075054:=True
def tw9930563490563300203:=True
def tw6917679969603407906:=True
def tw2373543394765977276:=True
def tw1645905615051027454:=True
def tw17900667973644028587:=True
def tw15943358354443407231:=True
def tw690706970909439662:=True
def tw17921013222067826295:=True
def tw10491091718325126814:=True
def tw889349453201974125:=True
def tw15887231830638088997:=True
def tw3783040918044280:=True
def tw15720503100798958080:=True
def tw4199373580869005355:=True
def tw3578923988131111148:=True
def tw15964609209146670129:=True
def tw3527956564670850026:=True
def tw482588781406350943:=True
def tw17891666178708092702:=True
def tw15156541167523411284:=True
def tw16859354983909901183:=True
def tw6232960330081865848:=True
def tw6574162330536261823:=True
def tw6793798084945537298:=True
def tw17340771677684676946:=True
def tw18167886609372958265:=True
def tw11100846869508143556:=True
def tw7286064169854153936:=True
def tw11016731713179036456:=True
def tw1467994975604170842:=True
def tw10125371186571471670:=True
def tw5863724919350916873:=True
def tw11557400564275816454:=True
def tw1685967307860166875:=True
def tw16554919039600049835:=True
def tw10676971187919969510:=True
def tw5907471534269278298:=True
def tw6071590912136690200:=True
def tw9831409566331976608:=True
def tw3735397746155457578:=True
def tw682509728702249737:=True
def tw6409949673440004677:=True
def tw16473128226292525081:=True
def tw16651556681418054663:=True
def tw17299010855461826998:=True
def tw6639259715123916314:=True
def tw9749640348384189484:=True
def tw12482200487637181401:=True
def tw1462876106846248189:=True
def tw17970855819746949387:=True
def tw8063849301607948182:=True
def tw4760784216400123171:=True
def tw18441964724968404119:=True
def tw367066482932049919:=True
def tw7063289189189765306:=True
def tw2353389275239337000:=True
def tw6893546497641998704:=True
def tw11964638069331594483:=True
def tw7535632274247941550:=True
def tw1663260961033258568:=True
def tw4074945450301247791:=True
def tw5542111357039807852:=True
def tw14686636495580296451:=True
def tw10499459367881675064:=True
def tw8557817861944229406:=True
def tw17076747114588981916:=True
def tw4774558616792679672:=True
def tw10260296675146067156:=True
def tw10384670766574601406:=True
def tw5152018706057943621:=True
def tw5555882063923173011:=True
def tw929352743209543007:=True
def tw18021899943202104059:=True
def tw14472373924660901693:=True
def tw12867728416774249363:=True
def tw5461305069775906038:=True
def tw4741236549577381293:=True
def tw13048581647380049413:=True
def tw18166995630043335119:=True
def tw17046255065303635350:=True
def tw16391737996100521912:=True
def tw12701355056226349933:=True
def tw11492056139014383687:=True
def tw11752426673218823892:=True
def tw9364509456023299297:=True
def tw6535926744727866155:=True
def tw7943718689102667380:=True
def tw5763785175740020572:=True
def tw278091425418800429:=True
def tw11992136843937911535:=True
def tw15629118534068455703:=True
def tw9403578141333635667:=True
def tw1496200957944681917:=True
def tw16498777015772260349:=True
def tw6106058372988661865:=True
def tw14882294452342321373:=True
def tw15991177162763749461:=True
def tw17383400255125088082:=True
def tw16156403739984099444:=True
def tw14413927796909644782:=True
def tw5840856844609478258:=True
def tw13517266583193282974:=True
def tw4932692051160928731:=True
def tw3455282592001398030:=True
def tw2100446389736417375:=True
def tw2688913032534302099:=True
def tw5829709630457405366:=True
def tw9170526843170322994:=True
def tw17615779588048841524:=True
def tw11392790482888773011:=True
def tw9280695235260886411:=True
def tw12904656035697260165:=True
def tw12708977148499765342:=True
def tw12956513119201107808:=True
def tw2521132273732994733:=True
def tw17285904917583305627:=True
def tw16382564453632408998:=True
def tw3036226440199092286:=True
def tw17305811721735164405:=True
def tw39765813743702908:=True
def tw6477704123259549262:=True
def tw1843330274065777065:=True
def tw16253329513008689639:=True
def tw8790360430392698371:=True
def tw17142438272206516577:=True
def tw16159737532400126269:=True
def tw4500691669505503544:=True
def tw13947416376621420635:=True
def tw1106856558378582783:=True
def tw14861688156016419067:=True
def tw974281344954412800:=True
def tw16816451006675497786:=True
def tw16542472340864777317:=True
def tw1527682920316557403:=True
def tw18143374269899021593:=True
def tw6789616505058805132:=True
def tw10071336280972448324:=True
def tw5697853052144626633:=True
def tw11631105909110695692:=True
def tw10995651232587989834:=True
def tw17217970531173427943:=True
def tw1830895254914965163:=True
def tw85475200767626759:=True
def tw10745028784760682568:=True
def tw15071724856088404432:=True
def tw1516984220946874056:=True
def tw10102562476119604515:=True
def tw14468053534507464323:=True
def tw3018162688658662317:=True
def tw7715333846864757483:=True
def tw14554663214862410434:=True
def tw12361694237804235754:=True
def tw8914008921448317861:=True
def tw7638029746692563511:=True
def tw13294645775010018508:=True
def tw9425893862980610349:=True
def tw10773167370179511130:=True
def tw17178897200674954731:=True
def tw10310332616933029506:=True
def tw7509664740323264749:=True
def tw13283709174802737673:=True
def tw1315572522613727854:=True
def tw11501277735566172072:=True
def tw13668276560052574877:=True
def tw13910982485251209546:=True
def tw18332061119468829467:=True
def tw2715866790098733509:=True
def tw10738775926107536565:=True
def tw2443554949373459491:=True
def tw2079687804938026365:=True
def tw513005606438955169:=True
def tw2011420231899099907:=True
def tw12250188158928933967:=True
def tw635749783926292892:=True
def tw3282685234382742693:=True
def tw3555194043904400604:=True
def tw5434740266287076646:=True
def tw8047293218686611342:=True
def tw14406436989687428313:=True
def tw11941347885321003495:=True
def tw14001247230269390771:=True
def tw4174280700831360196:=True
def tw11149769947533312824:=True
def tw12570025005972801781:=True
def tw8298672360417352168:=True
def tw17766689825023519894:=True
def tw3528095371495406150:=True
def tw962167086236772710:=True
def tw8598807260647849255:=True
def tw3557206000350962529:=True
def tw12130877400374362034:=True
def tw5810566510885588398:=True
def tw9998907336409617499:=True
def tw13329141244912704348:=True
def tw14233553837690250730:=True
def tw3389722045823070620:=True
def tw6281340670697316992:=True
def tw9571372838863433817:=True
def tw5655332429124515980:=True
def tw16327672158970810664:=True
def tw7098096059809581179:=True
def tw952712918471702324:=True
def tw10083664870954640556:=True
def tw6006971781943216237:=True
def tw11055646618570814509:=True
def tw9460832150159439005:=True
def tw1454712641253965810:=True
def tw5731167819798756896:=True
def tw7283419110874587053:=True
def tw7592283822709305711:=True
def tw2254004862400360371:=True
def tw222458587159506817:=True
def tw8886063228545124322:=True
def tw268172330257315576:=True
def tw4203518752531648031:=True
def tw18418892866214841603:=True
def tw18356558063619136379:=True
def tw9933423790191377825:=True
def tw8215150849042050174:=True
def tw15000348091851633259:=True
def tw3558892032306533774:=True
def tw8399011850257843119:=True
def tw13864479163907964222:=True
def tw10158443189792357315:=True
def tw10739730180952657627:=True
def tw9545677033634119560:=True
def tw5072351160120850599:=True
def tw15266266958325024012:=True
def tw18366512518603614840:=True
def tw10576078643999795911:=True
def tw17584850149711255520:=True
def tw11493844974663300754:=True
def tw16270939220064284248:=True
def tw4174049640664121235:=True
def tw2891392209409126275:=True
def tw5280544647975642958:=True
def tw7349583704332860755:=True
def tw41765653649800070:=True
def tw7326574103108340045:=True
def tw15693524333615233107:=True
def tw12533489583768084348:=True
def tw18175197330564129253:=True
def tw4235142444101570902:=True
def tw15931703023824590139:=True
def tw5413866021262110790:=True
def tw4650724018377988941:=True
def tw14847229529956267866:=True
def tw12871458346896916827:=True
def tw14880161899950185615:=True
def tw5195949611898382615:=True
def tw4321701954304440154:=True
def tw6929076949109133105:=True
def tw12094947580656136459:=True
def tw15266349367044267854:=True
def tw16616180456404198723:=True
def tw6778926428608261763:=True
def tw16256120693414045602:=True
def tw6631439551319238660:=True
def tw2945675398594583472:=True
def tw376413768936150758:=True
def tw8243833367086425043:=True
def tw172442617530688986:=True
def tw14204823869929384073:=True
def tw13272668960339457100:=True
def tw5183835740710425471:=True
def tw9658492292197672664:=True
def tw13880715845325369581:=True
def tw8605253745420540478:=True
def tw138574676059902336:=True
def tw16948297006893725636:=True
def tw305080721844537094:=True
def tw773837588089752436:=True
def tw5266230898364520507:=True
def tw18142737713284077321:=True
def tw4003386625023744766:=True
def tw963363872215188785:=True
def tw662836758025161823:=True
def tw9413167700616245061:=True
def tw18161608736612452523:=True
def tw16671656765224999657:=True
def tw4304774420089907938:=True
def tw7628517622463246403:=True
def tw7097895649412617562:=True
def tw10900322794384949508:=True
def tw10230000700617361720:=True
def tw6013732886842322007:=True
def tw10975319254247357669:=True
def tw3044744007141094489:=True
def tw12029371844433552953:=True
def tw7229778699586512183:=True
def tw5246623162062998095:=True
def tw9611581114326341354:=True
def tw3826831195200214875:=True
def tw8585629855265468073:=True
def tw6658052466719814655:=True
def tw14190339852021825290:=True
def tw5868530974987298366:=True
def tw4344812326457667244:=True
def tw13322861602993757321:=True
def tw16580270385799344236:=True
def tw1349905137090614705:=True
def tw15443653157089060641:=True
def tw3951588564277477900:=True
def tw13704544103494794907:=True
def tw363980548297943482:=True
def tw6909841488093082827:=True
def tw12994478621313973525:=True
def tw18147891781342987349:=True
def tw13410721110248125112:=True
def tw261569087075202090:=True
def tw10808764828536570775:=True
def tw8410502130519771029:=True
def tw2712559557389219645:=True
def tw17165850479096416750:=True
def tw12512495765596893926:=True
def tw8931989956735944324:=True
def tw2767922137636188828:=True
def tw16581522370095619828:=True
def tw18310431591276802906:=True
def tw3302800907444480161:=True
def tw6122326299920364318:=True
def tw13404478889411092250:=True
def tw13345960354780207393:=True
def tw10914688305822425398:=True
def tw4911765688553384493:=True
def tw2684515012650411032:=True
def tw6890056427489797719:=True
def tw10959281252901982836:=True
def tw14859372700282053379:=True
def tw9222210195544307864:=True
def tw6631185923538961358:=True
def tw11373380316566804331:=True
def tw5678710873526531156:=True
def tw6669849839155282124:=True
def tw1056457320319474723:=True
def tw14933714865563563220:=True
def tw16042537136121514554:=True
def tw12626630976004486890:=True
def tw4049278868326696241:=True
def tw18301373803892665764:=True
def tw13951857243440974962:=True
def tw6743514565716447211:=True
def tw10043834060374601056:=True
def tw6590480083940195152:=True
def tw520324120003024646:=True
def tw12047368430555367155:=True
def tw7350230886168056836:=True
def tw14354744343094910557:=True
def tw4744998357756567513:=True
def tw16036673980134197800:=True
def tw17308650721659661244:=True
def tw12565116417426402174:=True
def tw11412386906116446507:=True
def tw16847356055486053210:=True
def tw11261870164662801058:=True
def tw6904042868320053861:=True
def tw16052899454938688212:=True
def tw8457637714350975149:=True
def tw6825499980053702789:=True
def tw108008266382151090:=True
def tw1633536109346568023:=True
def tw15397921963824984484:=True
def tw11489979085619262881:=True
def tw614143378159028287:=True
def tw12472441022300434507:=True
def tw369947378833755530:=True
def tw2105337121195910961:=True
def tw2753177251917509520:=True
def tw623393167126745931:=True
def tw8535971101304656054:=True
def tw10148686130846746652:=True
def tw7011922199736413106:=True
def tw5006508430629549448:=True
def tw16241261766166887226:=True
def tw6285604059285450280:=True
def tw11229097496110460277:=True
def tw2192194183350307021:=True
def tw2961557192639062826:=True
def tw10698618801298633793:=True
def tw9633311548777665249:=True
def tw12250571116567917174:=True
def tw12092635750267714463:=True
def tw12489859137160638183:=True
def tw10548398957003577294:=True
def tw12836390235026764026:=True
def tw12783750587914696299:=True
def tw4311273439804785495:=True
def tw4738987676439515428:=True
def tw15239431277977537466:=True
def tw2832255652678659300:=True
def tw15345179373934675063:=True
def tw7586320794767148349:=True
def tw14907327081958455009:=True
def tw10634580909950287647:=True
def tw14562507204147832040:=True
def tw17955232290739182439:=True
def tw87338304871391789:=True
def tw16825682249661477424:=True
def tw4834726490632192950:=True
def tw7923350954198648485:=True
def tw15963801691374436739:=True
def tw10421219047506012070:=True
def tw1272969984186322552:=True
def tw3637843315264040724:=True
def tw11922447573509473452:=True
def tw15491237217520474925:=True
def tw46659475569477864:=True
def tw11401068808991081857:=True
def tw9673309793046335287:=True
def tw11615437769533623045:=True
def tw13707227528605727538:=True
def tw7042819068985650698:=True
def tw12944220621207166836:=True
def tw6167152642095586185:=True
def tw14559603829930769130:=True
def tw1973139594062176201:=True
def tw14422072923620769420:=True
def tw503595375829340906:=True
def tw11885337044681347712:=True
def tw6598470774571000660:=True
def tw12266641221895405913:=True
def tw11860380473119244139:=True
def tw17646775191683876331:=True
def tw7223284057912543708:=True
def tw17512176968507714544:=True
def tw7086344400852139256:=True
def tw10178279195965538740:=True
def tw6176342036495935953:=True
def tw13292332857021655163:=True
def tw12102388370634488220:=True
def tw13693870472371493406:=True
def tw3870529051974822405:=True
def tw2599633771588250269:=True
def tw14801192987055932615:=True
def tw6190388798503830724:=True
def tw15069076790561863201:=True
def tw2107134041426853528:=True
def tw10277788567070271871:=True
def tw1369928815381093443:=True
def tw8016877248948876644:=True
def tw5048515185927600058:=True
def tw15357139516351185584:=True
def tw577636692937200006:=True
def tw13482304243288587505:=True
def tw14148199650025652137:=True
def tw1356118886138156791:=True
def tw6642394905693246770:=True
def tw6192833057441275720:=True
def tw3710899236078637123:=True
def tw7158702345165248257:=True
def tw14219895467695339487:=True
def tw4076863867714203360:=True
def tw16260925912512855970:=True
def tw6799739093365534119:=True
def tw13342687158489663515:=True
def tw3741209900485371430:=True
def tw14104320629716537131:=True
def tw6034775642586406522:=True
def tw6814819269720011724:=True
def tw7467753989346700087:=True
def tw4525628798758225912:=True
def tw1779273105678936920:=True
def tw9173232396479088664:=True
def tw4393393586046124796:=True
def tw10330250023528118588:=True
def tw829143046149414128:=True
def tw18380188339797140215:=True
def tw1981115467864289316:=True
def tw12934742211362215766:=True
def tw11388016833802751530:=True
def tw17987825326919843529:=True
def tw12107301030695928746:=True
def tw9847149549385282875:=True
def tw9299718813006197732:=True
def tw3969250894227179933:=True
def tw13899944232051003570:=True
def tw1250072257589680724:=True
def tw2663134497348703037:=True
def tw2299233272354304024:=True
def tw5856264819112728020:=True
def tw11686963771818812140:=True
def tw91947965078982000:=True
def tw11381779574374198173:=True
def tw13709405085105275021:=True
def tw16322500210710719807:=True
def tw131296072504910853:=True
def tw793130347288959169:=True
def tw374618578797458849:=True
def tw370803645986365769:=True
def tw656027924494536058:=True
def tw678084613242916275:=True
def tw222581928346876495:=True
def tw987045966354572901:=True
def tw921443902135610818:=True
def tw171366590638812472:=True
def tw319626174983564706:=True
def tw297965977825827826:=True
def tw761194508454905415:=True
def tw985299984812179961:=True
def tw384973378813085268:=True
def tw1076018541458514200:=True
def tw9455332414290363247:=True
def tw7268786837490280794:=True
def tw7033885769069035575:=True
def tw4027473891062512156:=True
def tw7808419170863544587:=True
def tw5948013696892089421:=True
def tw3444530844309709235:=True
def tw2920665384278819756:=True
def tw9221709223202778782:=True
def tw2380342486378015795:=True
def tw2667845087509704984:=True
def tw6554133979109289938:=True
def tw7712762406256171547:=True
def tw5364537132826300187:=True
def tw3357435691127486661:=True
def tw3528013538013971682:=True
def tw3182763890695364533:=True
def tw1160264754289278182:=True
def tw6537066009127036365:=True
def tw7061000794529931991:=True
def tw7322830737505471647:=True
def tw5817241815303200104:=True
def tw1982037657474956760:=True
def tw9021754870494236408:=True
def tw7785981886933687848:=True
def tw8434112633483761001:=True
def tw9887608063936623636:=True
def tw1153111071504360225:=True
def tw1413290845110632927:=True
def tw1293136840990413523:=True
def tw4751848597997663058:=True
def tw4571426820982598183:=True
def tw1410845572575450181:=True
def tw7311971088483922093:=True
def tw9224841968368721995:=True
def tw5650425753510067581:=True
def tw9415157710891198989:=True
def tw5170460286932454552:=True
def tw4539061507438176079:=True
def tw6380559417105911561:=True
def tw8264657247545211073:=True
def tw5727146036347214722:=True
def tw7235272156691483774:=True
def tw9023415916666715992:=True
end PySem.W.Fast
set_option maxRecDepth 100000 in
set_option maxHeartbeats 0 in
open_top PySem.Challenge.hd for PySem.Challenge.rw_ringbeat_k93_whole_text_again
open Array renaming length_toList→fw,replicate→iw,all_toList→qX,mem_def→tW,mem_of_getElem?→vF,find?_toList→xP,toList→Cc
open Bool renaming false_ne_true→cI,and_eq_true→cY,false_eq_true→gq,or_eq_true→n9,true_and→uG,or_eq_false_iff→wO,eq_iff_iff→A0,false_and→Bw
open Int renaming eq_ofNat_of_zero_le→eY,toNat_natCast→fC,emod_lt_of_pos→jW,emod_nonneg→lJ,zero_add→og,le_refl→sv,fdiv_eq_ediv_of_nonneg→tX,natCast_nonneg→zT
open List renaming mem_cons_self→cg,mem_cons_of_mem→ck,mem_cons→cu,range→cv,replicate→cy,length_map→cA,length_cons→cB,mem_append_right→cC,mem_range→cD,mem_singleton→cG,map_cons→cL,getD_eq_getElem?_getD→cN,mem_map→cO,mem_filter→cR,nodup_append→cT,size_toArray→cU,length_append→cV,mem_append→cW,lookup_cons→cZ,mem_append_left→c7,getElem?_eq_some_iff→de,map_map→df,getElem?_eq_getElem→dh,getElem?_map→dm,nodup_nil→dz,append_nil→dA,all_eq_true→dE,nodup_cons→dG,not_mem_nil→dO,append_assoc→dR,length_range→eD,find?_cons→eI,replicate_succ→eO,length_replicate→eS,all_cons→fq,getElem?_append_left→fE,mem_iff_getElem?→fF,set→fG,length_take→fK,map_append→fV,getElem?_range→fY,length_drop→gk,zip_cons_cons→gw,mem_of_getElem?→gJ,map_congr_left→gS,getElem_mem→gW,take_of_length_le→iq,foldl_cons→iy,length_set→iz,any_cons→iA,flatten_cons→iE,getElem?_append_right→iM,mem_iff_getElem→iN,mem_of_mem_take→iO,length_zip→jT,drop_of_length_le→kz,length_singleton→kK,countP_cons→kS,ext_getElem→kT,getElem?_set_ne→lc,lookup→lg,take_append_of_le_length→lh,forIn_cons→lD,countP_append→mj,getElem_range→ml,length→mU,eq_of_mem_replicate→mW,any_eq_true→ny,getElem?_replicate→nz,getElem_inj→nB,getElem_map→nD,nodup_range→nE,getElem?_set_self→nZ,of_mem_zip→oh,forIn_nil→o8,filterMap_cons→pI,length_pos_iff→pJ,contains_cons→p5,findIdx?_eq_some_iff_getElem→qE,any_eq_false→qJ,ext_getElem?→qK,flatMap_cons→qL,map_nil→qM,filter_cons→rM,getElem_set→rN,take_length→rO,zipIdx_cons→rP,eq_nil_of_length_eq_zero→sg,map_const'→sx,mem_zipIdx_iff_getElem?→sA,perm_ext_iff_of_nodup→tM,take_succ→tN,drop_eq_getElem_cons→tY,contains→uH,append_cancel_left→uU,filter_cons_of_neg→uV,filter_cons_of_pos→uW,length_eq_zero_iff→uX,drop_eq_nil_of_le→vH,contains_iff_mem→wB,countP_singleton→wC,getElem?_eq_none→wD,length_filter_le→wF,getElem_toArray→wQ,getD_cons_succ→xQ,filter_append→yJ,findIdx?_cons→yK,foldl→yL,mem_filterMap→yM,foldl_append→zU,getElem?_set→zV,getElem_take→zW,cons_append→Aj,take_left'→A6,length_nil→A7,nil_append→A8,range_succ→A9,zipIdx_nil→Bc,map_drop→Cd,map_take→Ce,sum_cons→Cf
open Nat renaming le_refl→cH,ne_of_lt→dg,lt_of_lt_of_le→di,le_trans→d8,zero_le→gn,lt_irrefl→iD,length_toDigits_le_iff→iV,length_toDigits_pos→jZ,ne_of_gt→kE,pow_le_pow_right→lA,min_self→lZ,sub_zero→ma,lt_succ_of_lt→mX,lt_succ_self→nP,min_eq_right→nQ,le_of_lt→oi,min_eq_left→oy,log2_lt→pj,lt_of_le_of_lt→qF,mod_lt→qG,le_of_eq→qY,le_of_succ_le→qZ,le_total→rh,strongRecOn→tq,isDigit_of_mem_toDigits→tO,add_comm→wG,succ_mul→wH,le_succ→xR,repr→xS
open Option renaming bind_some→dN,map_eq_some_iff→ka,isSome_iff_exists→tP,isSome_map→xT,getD_none→yN,map_some→zY,bind→Cg
open PyProof.Rows renaming callWith_type1→eT,slot_tuple_getitem→jM,boot_zip→si
open PySem renaming Value→cj,wpAny_bind→cq,Addr→cr,FuncData→cz,Shared→cE,Heap→cM,wpAny_pure→cP,wpAny→cQ,PyData→cX,model→c8,NameKind→dq,starEach→dD,World→dP,Around→dQ,Stmt→dS,mainGlobals→dW,bootBuiltins→d9,assignEach→ef,compareOp→eh,Program→eu,eval→eF,strIterType→eW,sizeLine_eq→fu,behindInMarks→fU,holding→f9,sysModules→gc,wpAny_mono→gh,keywordEach→gA,binaryOp→gI,swapsWith→gQ,wpAny_newObj_type→gU,wpAny_passesOwn→iL,Obj→iZ,wpAny_truthy_bool→i0,backTo→jG,backToKw→ku,standAt→kA,wpAny_Call_Name_kw→kF,getMethod→kI,assign→lK,callWith→md,sliceBounds→mh,letOwnedTupleGo→mr,PassesOwn→mY,call_meets→nj,Pos→oj,wpAny_holding→oq,cLine→oR,wpAny_pyIter_zip→oS,codeAny→pq,wpAny_execs_nil→pK,Operator→qH,Scope→qI,getItem→qN,tupleKind→qO,swappedStores→rQ,swapsWithSole→rR,wpAny_standAt→rS,tupleKind_room_in1→sj,BindsTo→tw,callerA→tD,codeAny_mono→tE,seqIndex_neg→tF,setItem→tG,wpAny_pyIter_list→tH,seqIndex_of→uI,subscripted→uJ,valueAt→vI,Code→wI,isTrue→wJ,newFunctionEnv→wK,attributeBase→xU,atKey→yO,bindC→yP,bindL→yQ,Data→zZ,concat_meets→Aa,release→Ab,CmpOp→Bd,Sem→Ci,builtinsNs→Cj,typeIs_int→Ck,wpAny_Name→Cm
open PySem.Heap renaming get?_push_of_some→cw,lt_size→cF,get?_push_size→dc,size_push→gu,SameBut→ip,get?_update_other→vG,get?_update_self→wA
open PySem.W renaming Frag→cm,kia_one→eE,emptyDict→eZ,findIn→e8,keepIn→fk,kitOne→gj,instObj→gB,callWith_K→jH,specialIn→jX,methodCall_KW→kB,plainGet→mV,cellsFrom_some→nq,fnOf→nr,lookIn→ou,plainGet_of→oT,hasDictIn→pT,kitx_list→pU,methodObj→pV,OpenLaw→rj,findCls→rm,makesIn→rn,readsIn→rq,takerIn→rA,codeIn→sk,isFn→tZ,callWith_K0→vJ,kitx_dict→wR,plainOver→wU,handedIn→xV,isClsIn→yR,takesIn→yS,exmOne→Ac,typeIn→Ad,WalkO→Ak,mroIn→Am,subIn→An
open Option renaming some→U,none→L
open Bool renaming true→Â,false→Ã
local macro_rules| `(tactic|walk_at "v1")=>`(tactic|first|exact Or.inl rfl|exact Or.inr (Or.inl rfl)|exact Or.inr (Or.inr rfl))
local macro_rules| `(tactic|walk_at "v2")=>`(tactic|first|exact .inl rfl|exact .inr rfl|assumption)
local macro_rules| `(tactic|walk_at "v3")=>`(tactic|first|exact Or.inl rfl|exact Or.inr rfl)
abbrev kC (x:PySem.Str):Prop:=(x==("__debug__":PySem.Str))=Ã
abbrev tI (x:PySem.Str):Prop:=(x==("__classdict__":PySem.Str))=Ã
namespace L2
open PySem PySem.Spec PyProof.Rows
abbrev i6:=Sum Int Str
noncomputable def t9:i6->cj->Bool
 |.inl k,v=>cj.isInt k v
 |.inr x,v=>cj.isStrOf x v
noncomputable def Jt (w:dP):i6->Int
 |.inl k=>hashInt k
 |.inr x=>hashStr w x
theorem yo:∀{k:i6} {v:cj},t9 k v=Â->(∃i t,k=Sum.inl i/\v=cj.int i t)\/(∃x t,k=Sum.inr x/\v=cj.str x t)
 |.inl i,v,h=>by obtain⟨t,e⟩:=cj.isInt_shape (k:=i) (v:=v) h;exact .inl ⟨i,t,rfl,e⟩
 |.inr x,v,h=>by obtain⟨t,e⟩:=cj.isStrOf_shape (x:=x) (v:=v) h;exact .inr ⟨x,t,rfl,e⟩
theorem Vs (i:Int)(t:Tok):t9 (.inl i) (.int i t)=Â:=by simp[t9,cj.isInt]
theorem Vt (x:Str)(t:Tok):t9 (.inr x) (.str x t)=Â:=by simp[t9,cj.isStrOf]
theorem ZN (a b:Int):decide ((Sum.inl a:i6)=Sum.inl b)=(a==b):=by
 by_cases e:a=b
 ·subst e;simp
 ·have h:¬(Sum.inl a:i6)=Sum.inl b:=λq=>e (Sum.inl.inj q);rw[decide_eq_false h];exact(beq_eq_false_iff_ne.mpr e).symm
theorem ZO (a b:Str):decide ((Sum.inr a:i6)=Sum.inr b)=decide (a=b):=by
 by_cases e:a=b
 ·subst e;simp
 ·have h:¬(Sum.inr a:i6)=Sum.inr b:=λq=>e (Sum.inr.inj q);rw[decide_eq_false h,decide_eq_false e]
theorem ZP (a:Int)(b:Str):decide ((Sum.inl a:i6)=Sum.inr b)=Ã:=decide_eq_false (λq=>nomatch q)
theorem ZQ (a:Str)(b:Int):decide ((Sum.inr a:i6)=Sum.inl b)=Ã:=decide_eq_false (λq=>nomatch q)
def ik (prog:eu)(w:dP):PySem.KeyKind prog w i6 where
 is:=t9
 hash:=Jt w
 inj:=λv a b ha hb=>by
  rcases yo ha with⟨i,t,rfl,rfl⟩|⟨x,t,rfl,rfl⟩
  ·rcases yo hb with⟨j,u,rfl,e⟩|⟨y,u,rfl,e⟩
   ·injection e with e1 _;rw[e1]
   ·exact nomatch e
  ·rcases yo hb with⟨j,u,rfl,e⟩|⟨y,u,rfl,e⟩
   ·exact nomatch e
   ·injection e with e1 _;rw[e1]
 byValue:=λk v h=>by rcases yo h with⟨i,t,rfl,rfl⟩|⟨x,t,rfl,rfl⟩<;>rfl
 pyHash:=λhv h=>by
  rcases yo hv with⟨i,t,rfl,rfl⟩|⟨x,t,rfl,rfl⟩
  ·exact wpAny_pyHash_int h
  ·exact wpAny_pyHash_str h
 eqBool:=λhu hv h=>by
  rcases yo hu with⟨i,t,rfl,rfl⟩|⟨x,t,rfl,rfl⟩
  ·rcases yo hv with⟨j,u,rfl,rfl⟩|⟨y,u,rfl,rfl⟩
   ·rw[ZN]at h;exact wpAny_eqBool_int h
   ·rw[ZP]at h;exact SeqAt.EqAt.int_str i t y u _ _ _ _ h
  ·rcases yo hv with⟨j,u,rfl,rfl⟩|⟨y,u,rfl,rfl⟩
   ·rw[ZQ]at h;exact SeqAt.EqAt.str_int x t j u _ _ _ _ h
   ·rw[ZO]at h;exact wpAny_eqBool_str h
 «strs»:=λk x t v h=>by
  rcases yo h with⟨i,u,rfl,e⟩|⟨y,u,rfl,e⟩
  ·exact nomatch e
  ·injection e with e1 _;subst e1;cases v<;>rfl
theorem Uw (prog:eu)(w:dP)(i:Int)(t:Tok):(ik prog w).is (.inl i) (.int i t)=Â:=Vs i t
theorem Ux (prog:eu)(w:dP)(x:Str)(t:Tok):(ik prog w).is (.inr x) (.str x t)=Â:=Vt x t
inductive V where
 |non|bl (b:Bool)|int (i:Int)|str (x:Str)|byt (b:Array UInt8)|flt (b:UInt64)|ref (a:cr)|ty (n:String)
 deriving DecidableEq
def Í:V->cj->Prop
 |.non,u=>u=cj.none
 |.bl b,u=>u=cj.bool b
 |.int i,u=>∃t,u=cj.int i t
 |.str x,u=>∃t,u=cj.str x t
 |.byt b,u=>∃t,u=cj.bytes b t
 |.flt b,u=>∃t,u=cj.float b t
 |.ref a,u=>u=cj.ref a
 |.ty n,u=>u=cj.type n
abbrev dU:List V->List cj->Prop:=Paired Í
variable {us:List cj}{xs:List V}
theorem dU.length (r:dU xs us):xs.length=us.length:=Paired.length r
theorem dU.get:∀{xs:List V} {us:List cj} {i:Nat} {x:V},dU xs us->xs[i]?=U x->∃u,us[i]?=U u/\Í x u
 |_,_,_,_,.nil,e=>by simp at e
 |_,_,0,_,.cons r _,e=>by simp at e;subst e;exact⟨_,rfl,r⟩
 |_,_,i+1,x,.cons _ t,e=>by obtain⟨u,h1,h2⟩:=dU.get (i:=i) (x:=x) t (by simpa using e);exact⟨u,by simpa using h1,h2⟩
variable {u:cj}
theorem dU.set {x:V}{u:cj}(r:Í x u):∀{xs:List V} {us:List cj} (i:Nat),dU xs us->dU (xs.set i x) (us.set i u)
 |_,_,_,.nil=>.nil
 |_,_,0,.cons _ t=>.cons r t
 |_,_,i+1,.cons q t=>.cons q (dU.set r i t)
theorem dU.append:∀{xs ys:List V} {us ws:List cj},dU xs us->dU ys ws->dU (xs++ys) (us++ws)
 |_,_,_,_,.nil,s=>s
 |_,_,_,_,.cons r t,s=>.cons r (dU.append t s)
theorem dU.take:∀{xs:List V} {us:List cj} (n:Nat),dU xs us->dU (xs.take n) (us.take n)
 |_,_,0,_=>.nil
 |_,_,_+1,.nil=>.nil
 |_,_,n+1,.cons r t=>.cons r (dU.take n t)
theorem dU.drop:∀{xs:List V} {us:List cj} (n:Nat),dU xs us->dU (xs.drop n) (us.drop n)
 |_,_,0,r=>r
 |_,_,_+1,.nil=>.nil
 |_,_,n+1,.cons _ t=>dU.drop n t
def o9:Option V->Option cj->Prop
 |some v,U u=>Í v u
 |none,L=>True
 |_,_=>False
variable {κ:Type}
def KV:List (κ×V)->List (κ×cj)->Prop:=Paired λ(p:κ×V) (q:κ×cj)=>p.1=q.1/\Í p.2 q.2
noncomputable def kV:i6->V
 |.inl i=>.int i
 |.inr x=>.str x
inductive HO where
 |lst (xs:List V)
 |tup (xs:List V)
 |dK (eG:List (i6×V))|dT (eG:List (List i6×V))
 |set (ϙ:Int->Bool) (n:Nat)
 |ins (ϛ dx:cr) (fs:List (Str×V))
 |own (x:cr)
 |xd (fs:List (Str×V))
 |met (f x:cr)
 |rng (lo hi:Int)
 |frz (o:iZ) (u:HO)
 |tbl (ps:Array cj)
 |ext (φ:cM->Prop)
abbrev Hp:=cr->Option HO
noncomputable def upd (H:Hp)(a:cr)(o:HO):Hp:=λb=>if b=a then U o else H b
variable {H:Hp}{a:cr}
theorem zo {o:HO}:upd H a o a=U o:=by unfold upd;rw[if_pos rfl]
variable {b:cr}
theorem zm {o:HO}(h:b≠a):upd H a o b=H b:=by unfold upd;rw[if_neg h]
theorem Ŀ {o u:HO}(h:H a=U o)(h':H b=U u)(d:o≠u):a≠b:=by intro e;subst e;rw[h]at h';exact d (Option.some.inj h')
theorem zu {o:HO}(h:H a=U o)(h':H b=L):a≠b:=by intro e;subst e;rw[h]at h';cases h'
section
variable (P:eu)(w:dP)
def gO (H:Hp)(h:cM)(a:cr):HO->Prop
  |.lst xs=>xs.length<=sizeLine/\∃(dZ:List cj) (n:Nat),dU xs dZ/\h.get? a=U { cls:=.type "list",data:=.seq dZ.toArray n }
  |.tup xs=>xs.length<=sizeLine/\∃dZ:List cj,dU xs dZ/\IsTup h a dZ.toArray
  |.dK eG=>eG.length<=sizeLine/\(a==gc)=Ã/\∃vs,KV eG vs/\h.DictOf (ik P w) a vs
  |.dT eG=>eG.length<=sizeLine/\(a==gc)=Ã/\∃xs:List (List i6×cr×cj),
      Paired (λ(p:List i6×V) (q:List i6×cr×cj)=>p.1=q.1/\H q.2.1=U (.tup (p.1.map kV))/\Í p.2 q.2.2) eG xs /\
      ∃o es ep,h.get? a=U o/\o.ExactDict/\o.data=.dict es ep/\es.toList=xs.map (entryOfKey (qO (ik P w)))/\(xs.map (·.1)).Nodup
  |.set ϙ n=>h.SetOf (intKind P w) a ϙ n
  |.ins ϛ dx fs=>H dx=U (.own a)/\fs.length<=1000/\dx≠a/\h.get? a=U (gB ϛ dx) /\
      ∃mA,h.Ns1 dx mA/\(∀f,o9 (fs.lookup f) (mA f))/\PySem.Within mA (fs.map (·.1))
  |.own _=>∃o,h.get? a=U o
  |.xd fs=>∃mA,h.Ns1 a mA/\∀f,o9 (fs.lookup f) (mA f)
  |.rng lo hi=>∃t u v,h.get? a=U { cls:=.type "range",data:=.fields #[.int lo t,.int hi u,.int 1 v] }
  |.frz o u=>h.get? a=U o/\gO H h a u
  |.tbl ps=>h.get? a=U { cls:=.none,data:=.fields ps }
  |.met f x=>h.get? a=U (pV (.ref f) (.ref x))
  |.ext φ=>φ h/\(∃o,h.get? a=U o)/\∀h1 h2:cM,φ h1->(∀o,h1.get? a=U o->h2.get? a=U o)->φ h2
def pX (H:Hp)(h:cM):Prop:=∀a o,H a=U o->gO P w H h a o
end
variable {α:Type}{H':Hp}{P:eu}{h h':cM}
section
variable {w:dP}{o:HO}
theorem gO.lt (x:gO P w H h a o):a<h.objs.size:=by
 cases o with
 |lst xs=>obtain⟨_,_,_,_,e⟩:=x;exact cF e
 |tup xs=>obtain⟨_,_,_,p⟩:=x;exact p.lt
 |dK eG=>obtain⟨_,_,_,_,o,_,_,e,_⟩:=x;exact cF e
 |dT eG=>obtain⟨_,_,_,_,o,_,_,e,_⟩:=x;exact cF e
 |set ϙ n=>obtain⟨o,_,_,_,e,_⟩:=x;exact cF e
 |ins ϛ dx fs=>obtain⟨_,_,_,e,_⟩:=x;exact cF e
 |own y=>obtain⟨_,e⟩:=x;exact cF e
 |xd fs=>obtain⟨_,⟨_,_,_,e,_⟩,_⟩:=x;exact cF e
 |rng lo hi=>obtain⟨_,_,_,e⟩:=x;exact cF e
 |frz ob u=>obtain⟨e,_⟩:=x;exact cF e
 |tbl ps=>exact cF (show h.get? a=U _ from x)
 |met f y=>exact cF (show h.get? a=U _ from x)
 |ext φ=>obtain⟨_,⟨_,e⟩,_⟩:=x;exact cF e
theorem Paired.mapP {α β:Type}{F Ϙ:α->β->Prop}:∀{l₁:List α} {l₂:List β},Paired F l₁ l₂->(∀a b,F a b->Ϙ a b)->Paired Ϙ l₁ l₂
 |_,_,.nil,_=>.nil
 |_,_,.cons r t,f=>.cons (f _ _ r) (Paired.mapP t f)
theorem gO.stay (x:gO P w H h a o)(k:∀b u,(b=a\/H b=U (.own a))->h.get? b=U u->h'.get? b=U u)
    (ho:∀b,H b=U (.own a)->H' b=U (.own a)) (ht:∀b xs,H b=U (.tup xs)->H' b=U (.tup xs)):gO P w H' h' a o:=by
  induction o with
  |lst xs=>obtain⟨z,dZ,n,r,e⟩:=x;exact⟨z,dZ,n,r,k _ _ (.inl rfl) e⟩
  |tup xs=>obtain⟨z,dZ,r,ob,e,c⟩:=x;exact⟨z,dZ,r,ob,k _ _ (.inl rfl) e,c⟩
  |dK eG=>obtain⟨z,y,vs,r,ob,es,ep,e,c⟩:=x;exact⟨z,y,vs,r,ob,es,ep,k _ _ (.inl rfl) e,c⟩
  |dT eG=>obtain⟨z,y,xs,r,ob,es,ep,e,c⟩:=x;exact⟨z,y,xs,Paired.mapP r λp q z=>⟨z.1,ht _ _ z.2.1,z.2.2⟩,ob,es,ep,k _ _ (.inl rfl) e,c⟩
  |set ϙ n=>obtain⟨ob,es,ep,t,e,c⟩:=x;exact⟨ob,es,ep,t,k _ _ (.inl rfl) e,c⟩
  |ins ϛ dx fs=>obtain⟨d,z,ne,e,mA,⟨od,es,ep,e2,c⟩,r⟩:=x;exact⟨ho _ d,z,ne,k _ _ (.inl rfl) e,mA,⟨od,es,ep,k _ _ (.inr d) e2,c⟩,r⟩
  |own y=>obtain⟨ob,e⟩:=x;exact⟨ob,k _ _ (.inl rfl) e⟩
  |xd fs=>obtain⟨mA,⟨od,es,ep,e,c⟩,r⟩:=x;exact⟨mA,⟨od,es,ep,k _ _ (.inl rfl) e,c⟩,r⟩
  |rng lo hi=>obtain⟨t,u,v,e⟩:=x;exact⟨t,u,v,k _ _ (.inl rfl) e⟩
  |frz ob u ih=>obtain⟨e,q⟩:=x;exact⟨k _ _ (.inl rfl) e,ih q⟩
  |tbl ps=>have e:h.get? a=U { cls:=.none,data:=.fields ps }:=x;show h'.get? a=U { cls:=.none,data:=.fields ps };exact k a _ (.inl rfl) e
  |met f y=>have e:h.get? a=U (pV (.ref f) (.ref y)):=x;show h'.get? a=U (pV (.ref f) (.ref y));exact k a _ (.inl rfl) e
  |ext φ=>obtain⟨p,⟨o,e⟩,st⟩:=x;exact⟨st _ _ p λo q=>k _ _ (.inl rfl) q,⟨o,k _ _ (.inl rfl) e⟩,st⟩
theorem pX.lt (x:pX P w H h)(e:H a=U o):a<h.objs.size:=(x a o e).lt
theorem pX.fresh (x:pX P w H h)(e:h.objs.size<=a):H a=L:=by
 cases q:H a with
 |none=>rfl
 |some u=>exact absurd (di (x.lt q) e) (iD _)
theorem pX.kept (x:pX P w H h)(k:∀b u,h.get? b=U u->h'.get? b=U u):pX P w H h':=λa o e=>(x a o e).stay (λb u _ q=>k b u q) (λ_ q=>q) λ_ _ q=>q
theorem pX.laid (x:pX P w H h)(k:∀b u,h.get? b=U u->h'.get? b=U u)(hp:h.objs.size<=a)(new:gO P w (upd H a o) h' a o):pX P w (upd H a o) h':=λb u e=>by
 have hn:=x.fresh hp;by_cases hb:b=a
 ·subst hb;rw[zo]at e;cases e;exact new
 ·rw[zm hb]at e;exact(x b u e).stay (λc v _ q=>k c v q) (λc q=>by rw[zm (zu q hn)];exact q) λc xs q=>by rw[zm (zu q hn)];exact q
end
def Rd (H:Hp)(a:cr)(u:HO):Prop:=H a=U u\/∃o,H a=U (.frz o u)
theorem Rd.ok {w:dP}{u:HO}(r:Rd H a u)(x:pX P w H h):gO P w H h a u:=by
 rcases r with r|⟨o,r⟩
 ·exact x a u r
 ·obtain⟨_,q⟩:=x a _ r;exact q
def EE:Option HO->Prop
 |some (.lst _)=>True
 |some (.dK _)=>True
 |some (.dT _)=>True
 |some (.set _ _)=>True
 |some (.ins _ _ _)=>True
 |some (.ext _)=>True
 |_=>False
section
variable {w:dP}{x e:cr}{o':HO}
theorem pX.write (ok:pX P w H h)(mu:EE (H x))(he:e=x\/H e=U (.own x))(k:∀b u,b≠e->h.get? b=U u->h'.get? b=U u)(DZ:∃u,h'.get? e=U u)
  (new:gO P w (upd H x o') h' x o'):pX P w (upd H x o') h':=λb u q=>by
 have FF:∀c y,H c=U (.own y)->c≠x:=λc y r z=>by subst z;rw[r]at mu;exact mu
 have JD:∀c xs,H c=U (.tup xs)->c≠x:=λc xs r z=>by subst z;rw[r]at mu;exact mu
 by_cases hb:b=x
 ·subst hb;rw[zo]at q;cases q;exact new
 ·rw[zm hb]at q;by_cases C6:b=e
  ·have q':H b=U (.own x):=by
    rcases he with z|z
    ·exact absurd (C6.trans z) hb
    ·rw[C6];exact z
   rw[q]at q';cases q';obtain⟨v,hv⟩:=DZ;exact⟨v,by rw[C6];exact hv⟩
  ·refine(ok b u q).stay (λc v hc r=>k c v ?_ r) (λc r=>by rw[zm (FF c b r)];exact r) λc xs r=>by rw[zm (JD c xs r)];exact r
   rcases hc with rfl|hc
   ·exact C6
   ·rintro rfl;rcases he with z|z
    ·exact FF c b hc z
    ·rw[hc]at z;cases z;exact hb rfl
end
structure Un (fs ex:List cr)(H H':Hp)(h h':cM):Prop where
 keep:∀b o,h.get? b=U o->H b=L->b∉fs->b∉ex->h'.get? b=U o
 slot:∀b o,h.get? b=U o->H b=L->b∈fs->b∉ex->∃sl,h'.get? b=U { o with slots:=sl }
 free:∀b o,h.get? b=U o->H b=L->b∉ex->H' b=L
 there:∀b o,h.get? b=U o->b∉ex->∃o',h'.get? b=U o'
 tups:∀b xs,H b=U (.tup xs)->H' b=U (.tup xs)
 frzs:∀b o u,H b=U (.frz o u)->H' b=U (.frz o u)
 tbls:∀b ps,H b=U (.tbl ps)->∃more,H' b=U (.tbl (ps++more))
section
variable {fs DW ex ex':List cr}{H1 H2:Hp}{h1 h2:cM}{x e:cr}{o:HO}
theorem Un.any (u:Un fs ex H H1 h h1){ob:iZ}(q:h.get? b=U ob)(n:H b=L)(hx:b∉ex):∃sl,h1.get? b=U { ob with slots:=sl }:=by
 by_cases hb:b∈fs
 ·exact u.slot b ob q n hb hx
 ·exact⟨ob.slots,u.keep b ob q n hb hx⟩
theorem Un.kept (k:∀b u,h.get? b=U u->h'.get? b=U u):Un fs ex H H h h' :=
 ⟨λb ob q _ _ _=>k b ob q,λb ob q _ _ _=>⟨ob.slots,k b ob q⟩,λ_ _ _ n _=>n,λb ob q _=>⟨ob,k b ob q⟩,λ_ _ q=>q,λ_ _ _ q=>q,λ_ ps q=>⟨#[],by rw[q];simp⟩⟩
theorem Un.refl:Un fs ex H H h h:=Un.kept λ_ _ q=>q
theorem Un.laid (k:∀b u,h.get? b=U u->h'.get? b=U u)(hp:h.objs.size<=a)(hn:H a=L):Un fs ex H (upd H a o) h h' where
 keep:=λb u q _ _ _=>k b u q
 slot:=λb u q _ _ _=>⟨u.slots,k b u q⟩
 free:=λb u q n _=>by rw[zm (dg (di (cF q) hp))];exact n
 there:=λb u q _=>⟨u,k b u q⟩
 tups:=λb xs q=>by rw[zm (zu q hn)];exact q
 frzs:=λb u xs q=>by rw[zm (zu q hn)];exact q
 tbls:=λb ps q=>⟨#[],by rw[zm (zu q hn),q];simp⟩
theorem Un.write (mu:EE (H x))(he:e=x\/H e=U (.own x))(k:∀b u,b≠e->h.get? b=U u->h'.get? b=U u)(DZ:∃u,h'.get? e=U u):Un fs ex H (upd H x o) h h':=by
 have hx:∀b,H b=L->b≠x:=λb n z=>by subst z;rw[n]at mu;exact mu
 have hb:∀b,H b=L->b≠e:=λb n z=>by
  subst z;rcases he with r|r
  ·exact hx b n r
  ·rw[n]at r;cases r
 have hm:∀b u,H b=U u->¬EE (U u)->b≠x:=λb u q nm z=>by subst z;rw[q]at mu;exact nm mu
 refine⟨λb u q n _ _=>k b u (hb b n) q,λb u q n _ _=>⟨u.slots,k b u (hb b n) q⟩,λb u q n _=>by rw[zm (hx b n)];exact n,λb u q _=>?_,
  λb xs q=>by rw[zm (hm b _ q λz=>z)];exact q,λb u xs q=>by rw[zm (hm b _ q λz=>z)];exact q,λb ps q=>⟨#[],by rw[zm (hm b _ q λz=>z),q];simp⟩⟩
 by_cases C6:b=e
 ·subst C6;exact DZ
 ·exact⟨u,k b u C6 q⟩
end
noncomputable def Hb (h:cM)(H:Hp):List cr:=(cv h.objs.size).filter λa=>(H a).isSome
def uM (h:cM)(H:Hp):cM:=PySem.W.hideAll h (Hb h H)
theorem Vu (h:cM)(H:Hp):(uM h H).objs.size=h.objs.size:=PySem.W.hideAll_size _ _
theorem Wq {o:iZ}(e:h.get? b=U o)(n:H b=L):(uM h H).get? b=U o :=
 PySem.W.hideAll_get _ e λhm=>by have q:(H b).isSome=Â:=(cR.mp hm).2;rw[n]at q;simp at q
theorem X7 {o:iZ}(e:(uM h H).get? b=U o):h.get? b=U o/\H b=L:=by
 have e':h.get? b=U o:=PySem.W.of_hideAll (Hb h H) e;refine⟨e',?_⟩;cases q:H b with
 |none=>rfl
 |some x=>have hm:b∈Hb h H:=cR.mpr ⟨cD.mpr (cF e'),by simp[q]⟩;have z:(uM h H).get? b=L:=PySem.W.hideAll_none (Hb h H) hm;rw[z]at e;cases e
noncomputable def BC (g h:cM)(Ϝ:cr):List (cr×iZ):=(cv h.objs.size).filterMap λa=>if a=Ϝ\/(g.get? a).isSome=Â then L else(h.get? a).map λo=>(a,o)
def Ó (g h:cM)(Ϝ d:cr):List (cr×iZ):=(BC g h Ϝ).filter λp=>decide (p.1≠d)
structure Mod (K:cm)(mg:Str->Option cj)(base:cM):Prop where
 kin:K.In base
 glob:base.Ns dW mg
 blt:∃mb,base.Ns Cj mb/\∀x:Str,x≠"__name__"->mb x=d9 x
 nolimit:base.NoLimit
structure Cx where
 prog:eu
 w:dP
 K:cm
 mg:Str->Option cj
 base:cM
 A:dQ
 N:List Str
 s₀:cE
 H₀:Hp
 env:Env
 outer:List Env
 stack:List Env
 ex:List cr
 fn:Str->Bool
 calm:Bool
 pn:List (cr×iZ)
 xe:cj->cE->Prop
abbrev SE (X:Cx)(e:Expr)(es:List Expr):Prop:=dD (e::es) X.env=(Ã,eF e X.env)::dD es X.env
abbrev SN (X:Cx)(e:Expr):Prop:=dD [e] X.env=[(Ã,eF e X.env)]
abbrev pL (X:Cx)(p:oj)(es:List Expr):Prop:=(jG p (dD es X.env)).any (·.1)=Ã
abbrev uZ (X:Cx)(x:Str):Prop:=X.fn x=Â\/X.env.scope.names.lookup x=U .local
abbrev EO (X:Cx)(e:Expr)(x:Str)(p q:oj):Prop:=gQ e (U (.Name x p)) q.line X.env=pure Ã
abbrev Ao (X:Cx)(i:Expr):Prop:=∀x,foldedSetIterable i X.env x=pure x
abbrev Ae (X:Cx)(e:Expr)(x:Str):Prop:=xU e x X.env (eF e X.env)=eF e X.env
abbrev Co (X:Cx)(p:oj)(es:List Expr):Prop:=((jG p (dD es X.env)).all (λx=>!x.1)&&(ku p (gA [] X.env)).all (λx=>x.1.isSome)&&decide (es.length+([]:List Keyword).length+(if([]:List Keyword).isEmpty then 0 else 1)<30))=Â
noncomputable def Ay (l:List Env):List cr:=l.filterMap (·.frame)
abbrev Cx.fs (X:Cx):List cr:=Ay X.outer
def sm (sc:qI)(x:Str):Prop:=sc.names.lookup x=U .local\/sc.names.lookup x=U .cell\/sc.names.lookup x=U .free
def õ (sc:qI)(x:Str):Prop:=sc.names.lookup x=U .local\/sc.names.lookup x=U .cell
def Ĥ (env:Env)(h:cM)(m:Str->Option cj)(x:Str)(u:cj):Prop :=
 (env.kindOf x=U .local/\m x=U u)\/((env.kindOf x=U .cell\/env.kindOf x=U .free)/\∃c,env.cells.lookup x=U c/\h.IsCell c (U u))
structure Cx.Ok (X:Cx):Prop where
 mod:Mod X.K X.mg X.base
 kind:X.env.scope.kind=.function
 glob:X.env.globals=dW
 blt:X.env.builtins=Cj
 above:X.s₀.heap.objs.size<=X.env.locals
 inj:∀x y c,X.env.cells.lookup x=U c->X.env.cells.lookup y=U c->x=y
 has:∀x,(X.env.kindOf x=U .cell\/X.env.kindOf x=U .free)->∃c,X.env.cells.lookup x=U c
 cab:∀x c,X.fn x=Â->X.env.cells.lookup x=U c->X.s₀.heap.objs.size<=c
 hd:X.calm=Â->X.A.handled=L
 frames:X.A.frames=U X.stack
 stk:X.stack=X.outer\/(X.stack=X.env::X.outer/\X.env.frame=U X.env.locals)
 exf:∀b∈X.ex,b≠X.env.locals/\∀x c,X.env.cells.lookup x=U c->c≠b
 bs:∀b o,X.base.get? b=U o->X.s₀.heap.get? b=U o/\X.H₀ b=L
 bsz:X.base.objs.size<=X.s₀.heap.objs.size
 noex:∀b o,X.base.get? b=U o->b∉X.ex
 exfs:∀b∈X.ex,b∉X.fs
 funs:X.s₀.heap.FunFrames X.base X.outer
 frf:∀b∈X.fs,X.H₀ b=L
structure Ë (X:Cx)(cn:List (cr×iZ))(M:List (Option V))(H:Hp)(s:cE):Prop where
 ok:X.Ok
 os:s.os=X.s₀.os
 bare:AllBare s.gens
 base:Un X.fs X.ex X.H₀ H X.s₀.heap s.heap
 loc:∃m,s.heap.Ns X.env.locals m/\∀(i:Nat) (x:Str) (v:V),X.N[i]?=U x->M[i]?=U (U v)->sm X.env.scope x->∃u,Í v u/\Ĥ X.env s.heap m x u
 cell:∀x c,X.env.cells.lookup x=U c->∃v,s.heap.IsCell c v
 free:H X.env.locals=L
 freeC:∀x c,X.env.cells.lookup x=U c->H c=L
 pin:∀p∈X.pn++cn,s.heap.get? p.1=U p.2/\H p.1=L/\p.1≠X.env.locals/\p.1∉X.fs/\∀v,p.2.data≠.cell v
 hok:pX X.prog X.w H s.heap
 len:M.length=X.N.length
variable {E:cj->cE->Prop}{ϖ:Model}{X:Cx}{ch:List cr}{i j t':Nat}{it:cr}{cn:List (cr×iZ)}{s s':cE}{v:V}{x:Str}
section
variable {M:List (Option V)}
theorem Cx.Ok.nofr (ok:X.Ok){o:iZ}(e:X.base.get? b=U o):b∉X.fs:=λhb=>by have:=(ok.funs.mem hb).1;rw[e]at this;cases this
theorem Ë.bs (I:Ë X cn M H s):∀b o,X.base.get? b=U o->s.heap.get? b=U o/\H b=L:=λb o e=>⟨I.base.keep b o (I.ok.bs b o e).1 (I.ok.bs b o e).2 (I.ok.nofr e) (I.ok.noex b o e),I.base.free b o (I.ok.bs b o e).1 (I.ok.bs b o e).2 (I.ok.noex b o e)⟩
theorem Ë.bk (I:Ë X cn M H s):∀b o,X.base.get? b=U o->s.heap.get? b=U o:=λb o e=>(I.bs b o e).1
theorem Ë.mod (I:Ë X cn M H s):Mod X.K X.mg X.base:=I.ok.mod
theorem Ë.kIn (I:Ë X cn M H s):X.K.In s.heap:=I.ok.mod.kin.keeps I.bk
theorem Ë.fr (I:Ë X cn M H s):∃m,Fr X.base X.env.locals s.heap m :=
 let⟨m,hn,_⟩:=I.loc
 ⟨m,hn,I.bk,d8 I.ok.bsz I.ok.above⟩
theorem Ë.lt (I:Ë X cn M H s):X.env.locals<s.heap.objs.size:=let⟨_,hn,_⟩:=I.loc;hn.lt
theorem Ë.sz (I:Ë X cn M H s):X.s₀.heap.objs.size<=s.heap.objs.size:=d8 I.ok.above (oi I.lt)
theorem Ë.nofs (I:Ë X cn M H s)(h:s.heap.objs.size<=a):a∉X.fs:=λhb=>by obtain⟨_,o,ho,_⟩:=I.ok.funs.mem hb;exact absurd (di (cF ho) (d8 I.sz h)) (iD _)
theorem Ë.cne (I:Ë X cn M H s):∀x c,X.env.cells.lookup x=U c->c≠X.env.locals:=λx c e z=>by obtain⟨v,o,ho,hd⟩:=I.cell x c e;obtain⟨m,⟨o',es,ep,Bp,IH,_⟩,_⟩:=I.loc;rw[z,Bp]at ho;cases ho;rw[IH]at hd;cases hd
theorem Ë.funs (I:Ë X cn M H s):s.heap.FunFrames X.base X.outer:=by
 have all:∀(l:List Env),(∀b∈Ay l,b∈X.fs)->X.s₀.heap.FunFrames X.base l->s.heap.FunFrames X.base l:=by
  intro l;induction l with
  |nil=>intro _ _;trivial
  |cons env r ih=>intro hs hl;obtain⟨hk,⟨Ϝ,o,hf,hn,ho,hd⟩,hr⟩:=hl;have hL:Ϝ∈X.fs:=hs Ϝ (by unfold Ay;rw[pI,hf];exact cg);obtain⟨sl,e⟩:=I.base.slot Ϝ o ho (I.ok.frf Ϝ hL) hL λz=>I.ok.exfs Ϝ z hL;exact⟨hk,⟨Ϝ,_,hf,hn,e,hd⟩,ih (λb hb=>hs b (by unfold Ay;rw[pI,hf];exact ck _ hb)) hr⟩
 exact all X.outer (λ_ hb=>hb) I.ok.funs
theorem Ë.stack (I:Ë X cn M H s):s.heap.FunFrames X.base X.stack:=by
 rcases I.ok.stk with e|⟨e,hf⟩
 ·rw[e];exact I.funs
 ·rw[e];obtain⟨m,hn,_⟩:=I.loc;refine .cons (by rw[I.ok.kind];decide) hf hn ?_ I.funs;exact cM.get?_none_of_le (d8 I.ok.bsz I.ok.above)
theorem Ë.stkSub (I:Ë X cn M H s):∀b∈Ay X.stack,b∈X.env.locals::X.fs:=λb hb=>by
 rcases I.ok.stk with e|⟨e,hf⟩
 ·rw[e]at hb;exact ck _ hb
 ·rw[e]at hb;unfold Ay at hb;rw[pI,hf]at hb;exact hb
theorem Ë.stkFree (I:Ë X cn M H s):∀b∈Ay X.stack,H b=L:=λb hb=>by
 rcases cu.mp (I.stkSub b hb)with e|hb
 ·rw[e];exact I.free
 ·obtain⟨_,o,ho,_⟩:=I.ok.funs.mem hb;exact I.base.free b o ho (I.ok.frf b hb) λz=>I.ok.exfs b z hb
theorem Ë.step {g':Array GenState}{d':Drawn}(I:Ë X cn M H s)
  (sr:∀b∈ch,(b∈X.ex\/X.s₀.heap.objs.size<=b)/\b≠X.env.locals/\(∀x c,X.env.cells.lookup x=U c->c≠b)/\∀p∈X.pn++cn,p.1≠b)
  (keep:∀b o,b≠X.env.locals->b∉X.fs->b∉ch->s.heap.get? b=U o->H b=L->h'.get? b=U o)
  (slot:∀b o,b≠X.env.locals->b∈X.fs->b∉ch->s.heap.get? b=U o->H b=L->∃sl,h'.get? b=U { o with slots:=sl }) (free:∀b o,b∉ch->s.heap.get? b=U o->H b=L->H' b=L)
  (there:∀b o,b∉ch->s.heap.get? b=U o->∃o',h'.get? b=U o')
  (tups:∀b xs,H b=U (.tup xs)->H' b=U (.tup xs)) (frzs:∀b o u,H b=U (.frz o u)->H' b=U (.frz o u)) (tbls:∀b ps,H b=U (.tbl ps)->∃more,H' b=U (.tbl (ps++more)))
  (ns:∀m,s.heap.Ns X.env.locals m->h'.Ns X.env.locals m) (hok:pX X.prog X.w H' h') (hg:AllBare g') :
  Ë X cn M H' { s with heap:=h',gens:=g',drawn:=d',toks:=t' }:=by
 have Mp:∀b o,X.s₀.heap.get? b=U o->b≠X.env.locals:=λb o e=>dg (di (cF e) I.ok.above);have G3:∀b o,X.s₀.heap.get? b=U o->b∉X.ex->b∉ch:=λb o e hx hb=>by
  rcases(sr b hb).1 with z|z
  ·exact hx z
  ·exact absurd (di (cF e) z) (iD _)
 have cellK:∀x c,X.env.cells.lookup x=U c->∀v,s.heap.IsCell c v->h'.IsCell c v:=λx c e v ⟨o,ho,hd⟩=>by
  have FA:c∉ch:=λz=>(sr c z).2.2.1 x c e rfl;by_cases hc:c∈X.fs
  ·obtain⟨sl,q⟩:=slot c o (I.cne x c e) hc FA ho (I.freeC x c e);exact⟨_,q,hd⟩
  ·exact⟨o,keep c o (I.cne x c e) hc FA ho (I.freeC x c e),hd⟩
 refine⟨I.ok,I.os,hg,⟨λb o e n hb hx=>?_,λb o e n hb hx=>?_,λb o e n hx=>?_,λb o e hx=>?_,λb xs e=>tups b xs (I.base.tups b xs e),λb o xs e=>frzs b o xs (I.base.frzs b o xs e),λb ps e=>?_⟩,?_,λx c e=>?_,?_,λx c e=>?_,λp hp=>?_,hok,I.len⟩
 ·exact keep b o (Mp b o e) hb (G3 b o e hx) (I.base.keep b o e n hb hx) (I.base.free b o e n hx)
 ·obtain⟨sl,e1⟩:=I.base.slot b o e n hb hx;obtain⟨Sq,e2⟩:=slot b _ (Mp b o e) hb (G3 b o e hx) e1 (I.base.free b o e n hx);exact⟨Sq,e2⟩
 ·obtain⟨o',e1⟩:=I.base.there b o e hx;exact free b o' (G3 b o e hx) e1 (I.base.free b o e n hx)
 ·obtain⟨o',e1⟩:=I.base.there b o e hx;exact there b o' (G3 b o e hx) e1
 ·obtain⟨m1,e1⟩:=I.base.tbls b ps e;obtain⟨m2,e2⟩:=tbls b _ e1;exact⟨m1++m2,by rw[e2,Array.append_assoc]⟩
 ·obtain⟨m,hn,hl⟩:=I.loc;refine⟨m,ns m hn,λi x v e1 e2 e3=>?_⟩;obtain⟨u,r,l⟩:=hl i x v e1 e2 e3;refine⟨u,r,?_⟩;rcases l with l|⟨k,c,e,z⟩
  ·exact .inl l
  ·exact .inr ⟨k,c,e,cellK x c e _ z⟩
 ·obtain⟨v,z⟩:=I.cell x c e;exact⟨v,cellK x c e v z⟩
 ·obtain⟨m,⟨o,_,_,ho,_⟩,_⟩:=I.loc;exact free _ o (λz=>(sr _ z).2.1 rfl) ho I.free
 ·obtain⟨v,o,ho,hd⟩:=I.cell x c e;exact free c o (λz=>(sr c z).2.2.1 x c e rfl) ho (I.freeC x c e)
 ·obtain⟨e,n,ne,nf,d⟩:=I.pin p hp;have FA:p.1∉ch:=λz=>(sr p.1 z).2.2.2 p hp rfl;exact⟨keep p.1 p.2 ne nf FA e n,free p.1 p.2 FA e n,ne,nf,d⟩
theorem Ë.un (I:Ë X cn M H s)(u:Un X.fs [] H H' s.heap h')(hok:pX X.prog X.w H' h'):Ë X cn M H' { s with heap:=h',toks:=t' }:=by obtain⟨m,⟨o,es,ep,ho,r⟩,_⟩:=id I.loc;obtain⟨sl,hL⟩:=u.any ho I.free (by simp);exact I.step (g':=s.gens) (d':=s.drawn) (ch:=[]) (λ_ z=>nomatch z) (λb o _ hb _ e n=>u.keep b o e n hb (by simp)) (λb o _ hb _ e n=>u.slot b o e n hb (by simp)) (λb o _ e n=>u.free b o e n (by simp)) (λb o _ e=>u.there b o e (by simp)) u.tups u.frzs u.tbls (λm' hm=>by obtain⟨o',wL,Ir,Bp,r'⟩:=hm;rw[ho]at Bp;cases Bp;exact⟨_,wL,Ir,hL,r'⟩) hok I.bare
theorem Ë.call {g':Array GenState}{d':Drawn}(I:Ë X cn M H s)(u:Un (Ay X.stack) ch H H' s.heap h')(hok:pX X.prog X.w H' h')(hg:AllBare g')
  (sr:∀b∈ch,(b∈X.ex\/X.s₀.heap.objs.size<=b)/\b≠X.env.locals/\(∀x c,X.env.cells.lookup x=U c->c≠b)/\∀p∈X.pn++cn,p.1≠b) :
  Ë X cn M H' { s with heap:=h',gens:=g',drawn:=d',toks:=t' }:=by
 obtain⟨m,⟨o,es,ep,ho,r⟩,_⟩:=id I.loc;obtain⟨sl,hL⟩:=u.any ho I.free λz=>(sr _ z).2.1 rfl;exact I.step (ch:=ch) sr (λb o hL hb hc e n=>u.keep b o e n (λz=>(cu.mp (I.stkSub b z)).elim hL hb) hc) (λb o _ _ hc e n=>u.any e n hc) (λb o hc e n=>u.free b o e n hc) (λb o hc e=>u.there b o e hc) u.tups u.frzs u.tbls (λm' hm=>by obtain⟨o',wL,Ir,Bp,r'⟩:=hm;rw[ho]at Bp;cases Bp;exact⟨_,wL,Ir,hL,r'⟩) hok hg
theorem Ë.turned (I:Ë X cn M H s)(k:∀b o,b≠it->s.heap.get? b=U o->h'.get? b=U o)(hn:H it=L)(hL:it≠X.env.locals)
  (h1:it∈X.ex\/X.s₀.heap.objs.size<=it) (h2:∀x c,X.env.cells.lookup x=U c->c≠it) (h3:∀p∈X.pn++cn,p.1≠it):Ë X cn M H { s with heap:=h',toks:=t' }:=by
 have Mq:∀b u,H b=U u->b≠it:=λb u e z=>by rw[z,hn]at e;cases e
 refine I.step (g':=s.gens) (d':=s.drawn) (ch:=[it]) (λb hb=>?_) (λb o _ _ hc e _=>k b o (λz=>hc (by simp[z])) e) (λb o _ _ hc e _=>⟨o.slots,k b o (λz=>hc (by simp[z])) e⟩) (λ_ _ _ _ n=>n)
  (λb o hc e=>⟨o,k b o (λz=>hc (by simp[z])) e⟩) (λ_ _ e=>e) (λ_ _ _ e=>e) (λb ps e=>⟨#[],by rw[e];simp⟩) (λm hm=>?_) (λb u e=>?_) I.bare
 ·have e:b=it:=by simpa using hb
  subst e;exact⟨h1,hL,h2,h3⟩
 ·obtain⟨o,es,ep,ho,r⟩:=hm;exact⟨o,es,ep,k _ o (Ne.symm hL) ho,r⟩
 ·refine(I.hok b u e).stay (λc v hc q=>k c v ?_ q) (λ_ q=>q) λ_ _ q=>q;rcases hc with z|z
  ·rw[z];exact Mq b u e
  ·exact Mq c _ z
theorem Ë.tok (I:Ë X cn M H s)(t:Nat):Ë X cn M H { s with toks:=t }:=I.un (h':=s.heap) (t':=t) Un.refl I.hok
theorem Ë.kept (I:Ë X cn M H s)(k:∀b u,s.heap.get? b=U u->h'.get? b=U u):Ë X cn M H { s with heap:=h',toks:=t' }:=I.un (Un.kept k) (I.hok.kept k)
theorem Ë.laid {o:HO}(I:Ë X cn M H s)(k:∀b u,s.heap.get? b=U u->h'.get? b=U u)(hp:s.heap.objs.size<=a)(new:gO X.prog X.w (upd H a o) h' a o) :
  Ë X cn M (upd H a o) { s with heap:=h',toks:=t' }:=I.un (Un.laid k hp (I.hok.fresh hp)) (I.hok.laid k hp new)
theorem Ë.write {x e:cr}{o:HO}(I:Ë X cn M H s)(mu:EE (H x))(he:e=x\/H e=U (.own x))(k:∀b u,b≠e->s.heap.get? b=U u->h'.get? b=U u)(DZ:∃u,h'.get? e=U u)
  (new:gO X.prog X.w (upd H x o) h' x o):Ë X cn M (upd H x o) { s with heap:=h',toks:=t' }:=I.un (Un.write mu he k DZ) (I.hok.write mu he k DZ new)
theorem Ë.weak {σ':List (Option V)}(I:Ë X cn M H s)(hl:σ'.length = M.length)(w:∀(i:Nat) v,σ'[i]?=U (U v)->M[i]?=U (U v)):Ë X cn σ' H s :=
 ⟨I.ok,I.os,I.bare,I.base,let⟨m,hn,BG⟩:=I.loc;⟨m,hn,λi x v e1 e2 e3=>BG i x v e1 (w i v e2) e3⟩,I.cell,I.free,I.freeC,I.pin,I.hok,hl.trans I.len⟩
theorem Ë.pins_of {CI:List (cr×iZ)}(I:Ë X cn M H s)(h:∀p∈CI,s.heap.get? p.1=U p.2/\H p.1=L/\p.1≠X.env.locals/\p.1∉X.fs/\∀v,p.2.data≠.cell v):Ë X CI M H s :=
 ⟨I.ok,I.os,I.bare,I.base,I.loc,I.cell,I.free,I.freeC,λp hp=>(cW.mp hp).elim (λz=>I.pin p (c7 _ z)) (h p),I.hok,I.len⟩
theorem NO {N:List Str}(hN:N.Nodup)(a:N[i]?=U x)(b:N[j]?=U x):i=j:=by obtain⟨h1,e1⟩:=de.mp a;obtain⟨h2,e2⟩:=de.mp b;exact(nB hN).mp (e1.trans e2.symm)
theorem Nk {A:dQ}{Q:Unit->cE->Prop}(I:Ë X cn M H s)(hN:X.N.Nodup)(hi:X.N[i]?=U x)(hx:õ X.env.scope x)(r:Í v u)
  (h:∀s',Ë X cn (M.set i (U v)) H s'->(∃a,ip a s.heap s'.heap/\(a=X.env.locals\/X.env.cells.lookup x=U a))->Q () s') (hf:uZ X x:=by walk_at "v2"):cQ ϖ A (storeName X.env x u) Q E s:=by
 obtain⟨m,hn,hl⟩:=id I.loc;have IF:(X.env.scope.kind==.class || (X.env.scope.kind==.module&&X.env.locals != X.env.globals))=Ã:=by rw[I.ok.kind];rfl
 have Mc:i < M.length:=by rw[I.len];exact(de.mp hi).1
 have cne:=I.cne;have tracked:∀{a:cr} {h':cM},(∃o,s.heap.get? a=U o/\H a=L)->ip a s.heap h'->pX X.prog X.w H h':=λ{a h'} ha hs b ob e=>by
  obtain⟨_,_,CA⟩:=ha;refine(I.hok b ob e).stay (λc w' hc q=>(hs.2 c ?_).trans q) (λ_ q=>q) λ_ _ q=>q;rintro rfl;rcases hc with rfl|hc
  ·rw[CA]at e;cases e
  ·rw[CA]at hc;cases hc
 rcases hx with hk|hk
 ·refine wpAny_storeName_local hk hn (λh' IY hs=>?_) IF;obtain⟨oL,_,_,RE,_⟩:=id hn;refine h _ ⟨I.ok,I.os,I.bare,⟨λb o e n hb hx=>?_,λb o e n hb hx=>?_,I.base.free,λb o e hx=>?_,I.base.tups,I.base.frzs,I.base.tbls⟩,⟨_,IY,λj y v' e1 e2 e3=>?_⟩,λy c e=>?_,I.free,I.freeC,λp hp=>?_,tracked ⟨oL,RE,I.free⟩ hs,by simpa using I.len⟩ ⟨_,hs,.inl rfl⟩
  ·exact(hs.2 b (dg (di (cF e) I.ok.above))).trans (I.base.keep b o e n hb hx)
  ·obtain⟨sl,e1⟩:=I.base.slot b o e n hb hx;exact⟨sl,(hs.2 b (dg (di (cF e) I.ok.above))).trans e1⟩
  ·obtain⟨o',e1⟩:=I.base.there b o e hx;exact⟨o',(hs.2 b (dg (di (cF e) I.ok.above))).trans e1⟩
  ·by_cases hj:j=i
   ·subst hj;rw[hi]at e1;cases e1;rw[nZ Mc]at e2;cases e2;exact⟨u,r,.inl ⟨hk,by simp⟩⟩
   ·rw[lc (Ne.symm hj)]at e2;obtain⟨u',r',q⟩:=hl j y v' e1 e2 e3;refine⟨u',r',?_⟩;rcases q with⟨k,e⟩|⟨k,c,e,z⟩
    ·refine .inl ⟨k,?_⟩;have:y≠x:=λe=>hj (NO hN e1 (e▸hi));simp[this,e]
    ·exact .inr ⟨k,c,e,z.sameBut hs (cne y c e)⟩
  ·obtain⟨w',z⟩:=I.cell y c e;exact⟨w',z.sameBut hs (cne y c e)⟩
  ·obtain⟨e,n,ne,nf,d⟩:=I.pin p hp;exact⟨(hs.2 p.1 ne).trans e,n,ne,nf,d⟩
 ·have D0:X.fn x=Â:=by
   rcases hf with z|z
   ·exact z
   ·rw[z]at hk;cases hk
  obtain⟨c,hc⟩:=I.ok.has x (.inl hk);obtain⟨w',z⟩:=I.cell x c hc;refine wpAny_storeName_cell I.ok.kind hk hc z (λh' Cy hs=>?_);obtain⟨oc,Me,Ja⟩:=id z;refine h { s with heap:=h' } ⟨I.ok,I.os,I.bare,⟨λb o e n hb hx=>?_,λb o e n hb hx=>?_,I.base.free,λb o e hx=>?_,I.base.tups,I.base.frzs,I.base.tbls⟩,⟨m,hn.sameBut hs (Ne.symm (cne x c hc)),λj y v' e1 e2 e3=>?_⟩,λy c' e=>?_,I.free,I.freeC,λp hp=>?_,tracked ⟨oc,Me,I.freeC x c hc⟩ hs,by simpa using I.len⟩ ⟨c,hs,.inr hc⟩
  ·exact(hs.2 b (dg (di (cF e) (I.ok.cab x c D0 hc)))).trans (I.base.keep b o e n hb hx)
  ·obtain⟨sl,e1⟩:=I.base.slot b o e n hb hx;exact⟨sl,(hs.2 b (dg (di (cF e) (I.ok.cab x c D0 hc)))).trans e1⟩
  ·obtain⟨o',e1⟩:=I.base.there b o e hx;exact⟨o',(hs.2 b (dg (di (cF e) (I.ok.cab x c D0 hc)))).trans e1⟩
  ·by_cases hj:j=i
   ·subst hj;rw[hi]at e1;cases e1;rw[nZ Mc]at e2;cases e2;exact⟨u,r,.inr ⟨.inl hk,c,hc,Cy⟩⟩
   ·rw[lc (Ne.symm hj)]at e2;obtain⟨u',r',q⟩:=hl j y v' e1 e2 e3;refine⟨u',r',?_⟩;rcases q with q|⟨k,c',e,z'⟩
    ·exact .inl q
    ·refine .inr ⟨k,c',e,z'.sameBut hs ?_⟩;rintro rfl;exact hj (NO hN e1 (I.ok.inj _ _ _ e hc▸hi))
  ·by_cases L8:c'=c
   ·subst L8;exact⟨_,Cy⟩
   ·obtain⟨w2,z2⟩:=I.cell y c' e;exact⟨w2,z2.sameBut hs L8⟩
  ·obtain⟨e,n,ne,nf,d⟩:=I.pin p hp;refine⟨(hs.2 p.1 ?_).trans e,n,ne,nf,d⟩;intro q;rw[q,Me]at e;have q':oc=p.2:=Option.some.inj e;exact d w' (by rw[←q'];exact Ja)
theorem Ko {A:dQ}{Q:Unit->cE->Prop}(I:Ë X cn M H s)(hN:X.N.Nodup)(hi:X.N[i]?=U x)(hx:õ X.env.scope x)(r:Í v u)
  (h:∀s',Ë X cn (M.set i (U v)) H s'->Q () s') (hf:uZ X x:=by walk_at "v2"):cQ ϖ A (storeName X.env x u) Q E s :=
 Nk I hN hi hx r (λs' I' _=>h s' I') hf
theorem Ë.call' (I:Ë X cn M H s)(ho:s'.os=s.os)(u:Un (Ay X.stack) ch H H' s.heap s'.heap)(hok:pX X.prog X.w H' s'.heap)(hg:AllBare s'.gens)
  (sr:∀b∈ch,(b∈X.ex\/X.s₀.heap.objs.size<=b)/\b≠X.env.locals/\(∀x c,X.env.cells.lookup x=U c->c≠b)/\∀p∈X.pn++cn,p.1≠b):Ë X cn M H' s':=by
 obtain⟨h',g',d',t',o'⟩:=s';have e:o'=s.os:=ho;subst e;exact I.call (g':=g') (t':=t') (d':=d') u hok hg sr
end
abbrev XK:=cj->Option cr->Hp->Prop
abbrev St:=List (Option V)
abbrev VK:=V->Hp->Prop
abbrev TE:=St->Hp->VK->Prop
abbrev TT:=St->Hp->(Bool->Hp->Prop)->Prop
abbrev TA:=St->Hp->(List V->Hp->Prop)->Prop
structure qP where
 nx:St->Hp->Prop
 rt:VK
 bk:St->Hp->Prop:=λ_ _=>False
 ct:St->Hp->Prop:=λ_ _=>False
abbrev TS:=qP->St->Hp->Prop
def EP (X:Cx)(cn:List (cr×iZ))(M:St)(Q:VK)(u:cj)(s':cE):Prop:=∃v H',Ë X cn M H' s'/\Í v u/\Q v H'
def TP (X:Cx)(cn:List (cr×iZ))(M:St)(Q:Bool->Hp->Prop)(b:Bool)(s':cE):Prop:=∃H',Ë X cn M H' s'/\Q b H'
def AP (X:Cx)(cn:List (cr×iZ))(M:St)(Q:List V->Hp->Prop)(us:List cj)(s':cE):Prop:=∃vs H',Ë X cn M H' s'/\dU vs us/\Q vs H'
def SP (X:Cx)(cn:List (cr×iZ))(D:qP)(f:Flow)(s':cE):Prop :=
 match f with
 |.next=>∃σ' H',Ë X cn σ' H' s'/\D.nx σ' H'
 |.brk=>∃σ' H',Ë X cn σ' H' s'/\D.bk σ' H'
 |.cont=>∃σ' H',Ë X cn σ' H' s'/\D.ct σ' H'
 |.ret u=>∃v σ' H',Ë X cn σ' H' s'/\Í v u/\D.rt v H'
def PE (X:Cx)(e:Expr)(t:TE):Prop :=
 ∀(cn:List (cr×iZ)) (s:cE) (M:St) (H:Hp) (Q:VK),Ë X cn M H s->t M H Q->cQ (c8 X.prog X.w) X.A (eF e X.env) (EP X cn M Q) X.xe s
def PT (X:Cx)(e:Expr)(t:TT):Prop :=
 ∀(cn:List (cr×iZ)) (s:cE) (M:St) (H:Hp) (Q:Bool->Hp->Prop),Ë X cn M H s->t M H Q->cQ (c8 X.prog X.w) X.A (wJ e X.env (eF e X.env)) (TP X cn M Q) X.xe s
def PW (X:Cx)(e:Expr)(t:TT):Prop :=
 ∀(whole:Ci cj) (cn:List (cr×iZ)) (s:cE) (M:St) (H:Hp) (Q:Bool->Hp->Prop),Ë X cn M H s->t M H Q->cQ (c8 X.prog X.w) X.A (wJ e X.env whole) (TP X cn M Q) X.xe s
variable {e:Expr}
theorem PW.pt {t:TT}(h:PW X e t):PT X e t:=h _
def PA (X:Cx)(es:List Expr)(t:TA):Prop :=
 ∀(pos:oj) (cn:List (cr×iZ)) (s:cE) (M:St) (H:Hp) (Q:List V->Hp->Prop),Ë X cn M H s->t M H Q->cQ (c8 X.prog X.w) X.A (spliced (jG pos (dD es X.env))) (AP X cn M Q) X.xe s
def PS (X:Cx)(st:dS)(t:TS):Prop :=
 ∀(cn:List (cr×iZ)) (s:cE) (M:St) (H:Hp) (D:qP),Ë X cn M H s->t D M H->cQ (c8 X.prog X.w) X.A (exec st X.env) (SP X cn D) X.xe s
def xA (X:Cx)(st:List dS)(t:TS):Prop :=
 ∀(cn:List (cr×iZ)) (s:cE) (M:St) (H:Hp) (D:qP),Ë X cn M H s->t D M H->cQ (c8 X.prog X.w) X.A (execs st X.env) (SP X cn D) X.xe s
theorem fX {t:Ci α}{Q Q':α->cE->Prop}{A:dQ}(h:cQ ϖ A t Q E s)(hQ:∀a s,Q a s->Q' a s):cQ ϖ A t Q' E s:=gh h hQ λ_ _ x=>x
variable {Q:cj->cE->Prop}{c:Expr}{op:Bd}{pos:oj}{ta tb:TE}{M:St}
section
theorem bin {a b:Expr}(ha:PE X a ta)(hb:PE X b tb){R:V->V->Hp->Prop}(I:Ë X cn M H s)(h:ta M H λx H1=>tb M H1 λy H2=>R x y H2)
 {Q:α->cE->Prop} {f:cj->cj->Ci α}
    (hf:∀v u s2 x y H2,Ë X cn M H2 s2->Í x v->Í y u->R x y H2->cQ (c8 X.prog X.w) X.A (f v u) Q X.xe s2) :
    cQ (c8 X.prog X.w) X.A (eF a X.env) (λv s₁=>cQ (c8 X.prog X.w) X.A (eF b X.env) (λu s₂=>cQ (c8 X.prog X.w) X.A (f v u) Q X.xe s₂) X.xe s₁) X.xe s:=by
  refine fX (ha cn s M H _ I h) λv s1 gK=>?_;obtain⟨x,H1,I1,r1,q1⟩:=gK;refine fX (hb cn s1 M H1 _ I1 q1) λu s2 gK=>?_;obtain⟨y,H2,I2,r2,q2⟩:=gK;exact hf v u s2 x y H2 I2 r1 r2 q2
def J9 (i:Nat):TE:=λM H Q=>∃v,M[i]?=U (U v)/\Q v H
def tC (v:V):TE:=λ_ H Q=>Q v H
theorem xm (hN:X.N[i]?=U x)(hv:sm X.env.scope x)(hd:kC x:=by decide)(kW:tI x:=by decide):PE X (.Name x pos) (J9 i):=by
 intro cn s M H Q I h;obtain⟨v,e,h⟩:=h;obtain⟨m,hn,hl⟩:=I.loc;obtain⟨u,r,l⟩:=hl i x v hN e hv;have fin:EP X cn M Q u s:=⟨v,H,I,r,h⟩;rcases l with⟨hk,hm⟩|⟨hk,c,hc,sJ⟩
 ·exact Cm (wpAny_loadName_local I.ok.kind hk hn hm fin) hd
 ·rcases hk with hk|hk
  ·exact Cm (wpAny_loadName_cell I.ok.kind hk hc sJ fin) hd
  ·exact Cm (wpAny_loadName_free I.ok.kind hk hc sJ fin kW) hd
theorem ZR {i j pos}:PE X (.Constant (.int i) j pos) (tC (.int i)):=λ_ _ _ H _ I h=>wpAny_Constant_int ⟨.int i,H,I.tok _,⟨_,rfl⟩,h⟩
theorem ľ {b j pos}:PE X (.Constant (.bool b) j pos) (tC (.bl b)):=λ_ _ _ H _ I h=>Constant_bool ⟨.bl b,H,I,rfl,h⟩
theorem ZS {j pos}:PE X (.Constant .none j pos) (tC .non):=λ_ _ _ H _ I h=>Constant_none ⟨.non,H,I,rfl,h⟩
theorem ZT {x j pos}:PE X (.Constant (.str x) j pos) (tC (.str x)):=λ_ _ _ H _ I h=>Calls.Constant_str ⟨.str x,H,I.tok _,⟨_,rfl⟩,h⟩
def Gl (X:Cx)(x:Str):Prop:=X.env.kindOf x=U .globalImplicit
theorem vc (I:Ë X cn M H s)(hg:Gl X x)(hm:X.mg x=U u)(h:Q u s)
  (hd:kC x:=by decide):cQ (c8 X.prog X.w) X.A (eF (.Name x pos) X.env) Q E s :=
 Calls.Name_function_global I.ok.kind hg (Calls.loadGlobal_global (by rw[I.ok.glob];exact I.mod.glob.keeps I.bk) hm h) hd
theorem j9 (I:Ë X cn M H s)(hg:Gl X x)(hm:X.mg x=L)(hv:d9 x=U u)(h:Q u s)
  (hn:x≠"__name__":=by decide) (hd:kC x:=by decide):cQ (c8 X.prog X.w) X.A (eF (.Name x pos) X.env) Q E s:=by
 obtain⟨mb,h1,h2⟩:=I.mod.blt;exact Calls.Name_function_global I.ok.kind hg (Calls.loadGlobal_builtin (by rw[I.ok.glob];exact I.mod.glob.keeps I.bk) hm (by rw[I.ok.blt];exact h1.keeps I.bk) ((h2 x hn).trans hv) h) hd
theorem KS (hg:Gl X x)(hm:X.mg x=U u)(r:Í v u)(hd:kC x:=by decide):PE X (.Name x pos) (tC v) :=
 λ_ _ _ H _ I h=>vc I hg hm ⟨v,H,I,r,h⟩ hd
theorem X8 (hg:Gl X x)(hm:X.mg x=L)(hv:d9 x=U u)(r:Í v u)(hn:x≠"__name__":=by decide)(hd:kC x:=by decide):PE X (.Name x pos) (tC v) :=
 λ_ _ _ H _ I h=>j9 I hg hm hv ⟨v,H,I,r,h⟩ hn hd
variable {a b:Expr}
def PC (X:Cx)(op:Bd)(a b:Expr)(t:TE):Prop :=
 ∀(cn:List (cr×iZ)) (s:cE) (M:St) (H:Hp) (Q:VK),Ë X cn M H s->t M H Q ->
  cQ (c8 X.prog X.w) X.A (eF a X.env) (λv s₁=>cQ (c8 X.prog X.w) X.A (eF b X.env) (λu s₂=>cQ (c8 X.prog X.w) X.A (eh op v u) (EP X cn M Q) X.xe s₂) X.xe s₁) X.xe s
def tB (t:TE):TT:=λM H Q=>t M H λx H1=>∃c,x=.bl c/\Q c H1
theorem Lc {t:TE}(h:PC X op a b t)(h1:fU op b=Ã:=by first|exact FE _ (by decide) (by decide)|rfl):PT X (.Compare a [op] [b] pos) (tB t):=by intro cn s M H Q I hw;refine wpAny_isTrue_Compare1 (fX (h cn s M H _ I hw) λv s1 h1=>fX h1 λu s2 h2=>fX h2 λc s3 hq=>?_) h1;obtain⟨x,H1,I1,r1,q1⟩:=hq;obtain⟨d,rfl,q⟩:=q1;cases r1;exact i0 ⟨H1,I1,q⟩
theorem Pn {t:TE}(h:PE X e t)(he:∀whole,wJ e X.env whole=(do let v ← whole;kA e.pos;f9 [v] (truthy v)):=by intro _;rfl):PT X e (tB t):=by intro cn s M H Q I hw;refine isTrue_plain (fX (h cn s M H _ I hw) λv s1 hq=>?_) (he _);obtain⟨x,H1,I1,r1,q1⟩:=hq;obtain⟨d,rfl,q⟩:=q1;cases r1;exact i0 ⟨H1,I1,q⟩
variable {tA G6:TT}{Ó:List Expr}
def JU (t u:TT):TT:=λM H Q=>t M H λc H1=>if c=Â then u M H1 Q else Q Ã H1
def SD (t u:TT):TT:=λM H Q=>t M H λc H1=>if c=Â then Q Â H1 else u M H1 Q
def J4 (t:TT):TT:=λM H Q=>t M H λc H1=>Q (!c) H1
theorem X9 (ha:PT X a tA):PW X (.BoolOp .And [a] pos) tA:=by
 intro wh cn s M H Q I h;refine isTrue_and (fX (ha cn s M H Q I h) λc s1 e=>?_);cases c with
 |true=>exact isTrue_and_nil e
 |false=>exact e
theorem ZU (ha:PT X a tA):PW X (.BoolOp .Or [a] pos) tA:=by
 intro wh cn s M H Q I h;refine isTrue_or (fX (ha cn s M H Q I h) λc s1 e=>?_);cases c with
 |false=>exact isTrue_or_nil e
 |true=>exact e
theorem ZV (ha:PT X a tA)(hb:PW X (.BoolOp .And (b::Ó) pos) G6):PW X (.BoolOp .And (a::b::Ó) pos) (JU tA G6):=by
 intro wh cn s M H Q I h;refine isTrue_and (fX (ha cn s M H _ I h) λc s1 gK=>?_);obtain⟨H1,I1,q1⟩:=gK;cases c with
 |true=>exact hb wh cn s1 M H1 Q I1 q1
 |false=>exact⟨H1,I1,q1⟩
theorem Ľ (ha:PT X a tA)(hb:PW X (.BoolOp .Or (b::Ó) pos) G6):PW X (.BoolOp .Or (a::b::Ó) pos) (SD tA G6):=by
 intro wh cn s M H Q I h;refine isTrue_or (fX (ha cn s M H _ I h) λc s1 gK=>?_);obtain⟨H1,I1,q1⟩:=gK;cases c with
 |true=>exact⟨H1,I1,q1⟩
 |false=>exact hb wh cn s1 M H1 Q I1 q1
theorem Po (ha:PT X a tA):PT X (.UnaryOp .Not a pos) (J4 tA):=by intro cn s M H Q I h;exact isTrue_not (ha cn s M H (λc H1=>Q (!c) H1) I h)
def FX (ta tb:TE):TE:=λM H Q=>ta M H λx H1=>∃c,x=.bl c/\if c=Â then tb M H1 Q else Q (.bl Ã) H1
def J5 (ta tb:TE):TE:=λM H Q=>ta M H λx H1=>∃c,x=.bl c/\if c=Â then Q (.bl Â) H1 else tb M H1 Q
theorem ZW {op}{t:TE}(h:PE X a t):PE X (.BoolOp op [a] pos) t:=λcn s M H Q I hw=>BoolOp_one (h cn s M H Q I hw)
theorem ZX (ha:PE X a ta)(hb:PE X (.BoolOp .And (b::Ó) pos) tb):PE X (.BoolOp .And (a::b::Ó) pos) (FX ta tb):=by
 intro cn s M H Q I h;refine BoolOp_and (fX (ha cn s M H _ I h) λv s1 gK=>?_);obtain⟨x,H1,I1,r1,q1⟩:=gK;obtain⟨c,rfl,q1⟩:=q1;cases r1;refine i0 ?_;cases c with
 |true=>exact hb cn s1 M H1 Q I1 q1
 |false=>exact⟨.bl Ã,H1,I1,rfl,q1⟩
theorem ļ (ha:PE X a ta)(hb:PE X (.BoolOp .Or (b::Ó) pos) tb):PE X (.BoolOp .Or (a::b::Ó) pos) (J5 ta tb):=by
 intro cn s M H Q I h;refine BoolOp_or (fX (ha cn s M H _ I h) λv s1 gK=>?_);obtain⟨x,H1,I1,r1,q1⟩:=gK;obtain⟨c,rfl,q1⟩:=q1;cases r1;refine i0 ?_;cases c with
 |false=>exact hb cn s1 M H1 Q I1 q1
 |true=>exact⟨.bl Â,H1,I1,rfl,q1⟩
def Sw (t:TT)(ta tb:TE):TE:=λM H Q=>t M H λc H1=>if c=Â then ta M H1 Q else tb M H1 Q
theorem Ws (hc:PT X c tA)(ha:PE X a ta)(hb:PE X b tb):PE X (.IfExp c a b pos) (Sw tA ta tb):=by
 intro cn s M H Q I h;refine wpAny_IfExp (fX (hc cn s M H _ I h) λd s1 gK=>?_);obtain⟨H1,I1,q1⟩:=gK;cases d with
 |true=>exact ha cn s1 M H1 Q I1 q1
 |false=>exact hb cn s1 M H1 Q I1 q1
end
def ir (K:cm)(H:Hp)(a:cr)(xs:List V):Prop :=
 Rd H a (.lst xs) \/
  ∃(o:iZ) (dZ:Array cj) (n:Nat),K.lookup a=U o/\o.cls=.type "list"/\o.dict=L/\o.data=.seq dZ n/\dZ.size<=sizeLine/\dU xs dZ.toList
def nG (K:cm)(H:Hp)(a:cr)(xs:List V):Prop :=
 Rd H a (.tup xs) \/
  ∃(o:iZ) (dZ:Array cj) (n:Nat),K.lookup a=U o/\o.cls=.type "tuple"/\o.data=.seq dZ n/\dZ.size<=sizeLine/\dU xs dZ.toList
noncomputable def Io:cj->Option V
 |.none=>U .non
 |.bool b=>U (.bl b)
 |.int i _=>U (.int i)
 |.str x _=>U (.str x)
 |.bytes b _=>U (.byt b)
 |.float b _=>U (.flt b)
 |.ref a=>U (.ref a)
 |.type n=>U (.ty n)
 |_=>L
theorem Í.abs {x:V}(r:Í x u):Io u=U x:=by
 cases x with
 |non=>cases r;rfl
 |bl _=>cases r;rfl
 |int _=>obtain⟨t,rfl⟩:=r;rfl
 |str _=>obtain⟨t,rfl⟩:=r;rfl
 |byt _=>obtain⟨t,rfl⟩:=r;rfl
 |flt _=>obtain⟨t,rfl⟩:=r;rfl
 |ref _=>cases r;rfl
 |ty _=>cases r;rfl
variable {y:V}
theorem Í.inj {x:V}(r:Í x u)(q:Í y u):x=y:=Option.some.inj (r.abs.symm.trans q.abs)
theorem dU.inj:∀{xs ys:List V} {us:List cj},dU xs us->dU ys us->xs=ys
 |_,_,_,.nil,.nil=>rfl
 |_,_,_,.cons r t,.cons r' t'=>by rw[r.inj r',dU.inj t t']
variable {ys:List V}
theorem ir.of {K:cm}(h:H a=U (.lst xs)):ir K H a xs:=.inl (.inl h)
theorem nG.of {K:cm}(h:H a=U (.tup xs)):nG K H a xs:=.inl (.inl h)
theorem Ë.list (I:Ë X cn M H s)(h:ir X.K H a xs):∃dZ:List cj,dU xs dZ/\PlainL s.heap a dZ.toArray/\xs.length<=sizeLine:=by
 rcases h with h|⟨o,dZ,n,hk,hc,hd,hs,hz,r⟩
 ·obtain⟨z,dZ,n,r,e⟩:=h.ok I.hok;exact⟨dZ,r,⟨_,n,e,rfl,rfl,rfl⟩,z⟩
 ·refine⟨dZ.toList,r,⟨o,n,I.kIn a o hk,hc,hd,by simpa using hs⟩,?_⟩;have e:=r.length;simp only[fw]at e;omega
theorem Ë.tuple (I:Ë X cn M H s)(h:nG X.K H a xs):∃dZ:List cj,dU xs dZ/\IsTup s.heap a dZ.toArray/\xs.length<=sizeLine:=by
 rcases h with h|⟨o,dZ,n,hk,hc,hs,hz,r⟩
 ·obtain⟨z,dZ,r,p⟩:=h.ok I.hok;exact⟨dZ,r,p,z⟩
 ·refine⟨dZ.toList,r,⟨o,I.kIn a o hk,hc,n,by simpa using hs⟩,?_⟩;have e:=r.length;simp only[fw]at e;omega
theorem Ë.list_inj (I:Ë X cn M H s)(h:ir X.K H a xs)(h':ir X.K H a ys):xs=ys:=by
 obtain⟨dZ,r,⟨o,n,e,_,_,d⟩,_⟩:=I.list h;obtain⟨its',r',⟨o',n',e',_,_,d'⟩,_⟩:=I.list h';rw[e]at e';cases e';rw[d]at d';injection d' with d1 _;have:dZ=its':=by simpa using congrArg Cc d1
 subst this;exact r.inj r'
theorem Ë.tuple_inj (I:Ë X cn M H s)(h:nG X.K H a xs)(h':nG X.K H a ys):xs=ys:=by
 obtain⟨dZ,r,⟨o,e,_,n,d⟩,_⟩:=I.tuple h;obtain⟨its',r',⟨o',e',_,n',d'⟩,_⟩:=I.tuple h';rw[e]at e';cases e';rw[d]at d';injection d' with d1 _;have:dZ=its':=by simpa using congrArg Cc d1
 subst this;exact r.inj r'
noncomputable abbrev Cx.wish (X:Cx)(E:cj->cE->Prop):Cx:={ X with xe:=E }
abbrev Cx.nox (X:Cx):Cx:=X.wish λ_ _=>False
theorem Cx.Ok.wish (ok:X.Ok)(E:cj->cE->Prop):(X.wish E).Ok :=
 ⟨ok.mod,ok.kind,ok.glob,ok.blt,ok.above,ok.inj,ok.has,ok.cab,ok.hd,ok.frames,ok.stk,ok.exf,ok.bs,ok.bsz,ok.noex,ok.exfs,ok.funs,ok.frf⟩
theorem Cx.Ok.unwish (ok:(X.wish E).Ok):X.Ok :=
 ⟨ok.mod,ok.kind,ok.glob,ok.blt,ok.above,ok.inj,ok.has,ok.cab,ok.hd,ok.frames,ok.stk,ok.exf,ok.bs,ok.bsz,ok.noex,ok.exfs,ok.funs,ok.frf⟩
theorem Ë.wish (I:Ë X cn M H s)(E:cj->cE->Prop):Ë (X.wish E) cn M H s:=⟨I.ok.wish E,I.os,I.bare,I.base,I.loc,I.cell,I.free,I.freeC,I.pin,I.hok,I.len⟩
theorem Ë.unwish (I:Ë (X.wish E) cn M H s):Ë X cn M H s:=⟨I.ok.unwish,I.os,I.bare,I.base,I.loc,I.cell,I.free,I.freeC,I.pin,I.hok,I.len⟩
theorem SP.unwish {D:qP}{f:Flow}(h:SP (X.wish E) cn D f s'):SP X cn D f s':=by
 cases f with
 |next=>obtain⟨σ',H',I,q⟩:=h;exact⟨σ',H',I.unwish,q⟩
 |brk=>obtain⟨σ',H',I,q⟩:=h;exact⟨σ',H',I.unwish,q⟩
 |cont=>obtain⟨σ',H',I,q⟩:=h;exact⟨σ',H',I.unwish,q⟩
 |ret u=>obtain⟨v,σ',H',I,r,q⟩:=h;exact⟨v,σ',H',I.unwish,r,q⟩
theorem xA.nox {st:List dS}{t:TS}(h:xA X.nox st t):xA X st t:=λcn s M H D I hw=>gh (h cn s M H D (I.wish _) hw) (λ_ _ q=>q.unwish) λ_ _ z=>False.elim z
variable {te:TE}
section
variable {st:dS}{Ó:List dS}{t u:TS}
def F7:TS:=λD M H=>D.nx M H
def J7 (t u:TS):TS:=λD M H=>t { D with nx:=u D } M H
theorem Ya:xA X [] F7:=λ_ _ M H _ I h=>pK ⟨M,H,I,h⟩
theorem Kp (h1:PS X st t)(h2:xA X Ó u):xA X (st::Ó) (J7 t u):=by
 intro cn s M H D I h;refine wpAny_execs_cons (fX (h1 cn s M H { D with nx:=u D } I h) λf s1 q=>?_);cases f with
 |next=>obtain⟨σ',H',I',q⟩:=q;exact h2 cn s1 σ' H' D I' q
 |ret v=>exact q
 |brk=>exact q
 |cont=>exact q
theorem KU (h1:PS X st t):xA X [st] t:=by
 intro cn s M H D I h;refine wpAny_execs_cons (fX (h1 cn s M H D I h) λf s1 q=>?_);cases f with
 |next=>exact pK q
 |ret v=>exact q
 |brk=>exact q
 |cont=>exact q
theorem Ë.quiet (I:Ë X cn M H s):interactive X.env=Ã:=by simp[interactive,I.ok.kind]
def F6 (te:TE):TS:=λD M H=>te M H λ_ H1=>D.nx M H1
theorem KW (he:PE X e te)(hs:gQ e L pos.line X.env=pure Ã:=by rfl):PS X (.Expr e pos) (F6 te):=by intro cn s M H D I h;exact wpAny_Expr_any (fX (he cn s M H _ I h) λv s1 ⟨x,H1,I1,r1,q1⟩=>⟨M,H1,I1,q1⟩) I.quiet hs
def J6 (te:TE):TS:=λD M H=>te M H D.rt
theorem DH (he:PE X e te):PS X (.Return (U e) pos) (J6 te):=by intro cn s M H D I h;exact wpAny_Return_some (fX (he cn s M H _ I h) λv s1 ⟨x,H1,I1,r1,q1⟩=>⟨x,M,H1,I1,r1,q1⟩)
def J0 (c:TT)(t u:TS):TS:=λD M H=>c M H λb H1=>if b=Â then t D M H1 else u D M H1
theorem P2 {a b:List dS}{tc:TT}(hc:PT X c tc)(ha:xA X a t)(hb:xA X b u):PS X (.If c a b pos) (J0 tc t u):=by
 intro cn s M H D I h;refine wpAny_If (fX (hc cn s M H _ I h) λd s1 gK=>?_);obtain⟨H1,I1,q1⟩:=gK;cases d with
 |true=>exact ha cn s1 M H1 D I1 q1
 |false=>exact hb cn s1 M H1 D I1 q1
def DC:TS:=λ_ _ _=>False
theorem Wt:PS X st DC:=λ_ _ _ _ _ _ h=>h.elim
end
abbrev TG:=V->St->Hp->(St->Hp->Prop)->Prop
abbrev Bj:=List V->St->Hp->(St->Hp->Prop)->Prop
def PG (X:Cx)(target:Expr)(t:TG):Prop :=
 ∀(cn:List (cr×iZ)) (s:cE) (M:St) (H:Hp) (v:V) (u:cj) (Q:St->Hp->Prop),Ë X cn M H s->Í v u->t v M H Q ->
  cQ (c8 X.prog X.w) X.A (lK target X.env u) (λ_ s'=>∃σ' H',Ë X cn σ' H' s'/\Q σ' H') X.xe s
def CY (X:Cx)(ts:List Expr)(t:Bj):Prop :=
 ∀(cn:List (cr×iZ)) (s:cE) (M:St) (H:Hp) (vs:List V) (us:List cj) (Q:St->Hp->Prop),Ë X cn M H s->dU vs us->t vs M H Q ->
  cQ (c8 X.prog X.w) X.A (assignInOrder ((ef ts X.env).map (·.2)) us) (λ_ s'=>∃σ' H',Ë X cn σ' H' s'/\Q σ' H') X.xe s
abbrev Au:=V->V->V->Hp->(Hp->Prop)->Prop
def CZ (X:Cx)(t:Au):Prop :=
 ∀(cn:List (cr×iZ)) (s:cE) (M:St) (H:Hp) (o i v:V) (ov iv u:cj) (Q:Hp->Prop),Ë X cn M H s->Í o ov->Í i iv->Í v u->t o i v H Q ->
  cQ (c8 X.prog X.w) X.A (tG ov iv u) (λ_ s'=>∃H',Ë X cn M H' s'/\Q H') X.xe s
abbrev DT:=V->V->Hp->VK->Prop
def DS (X:Cx)(op:qH)(t:DT):Prop :=
 ∀(cn:List (cr×iZ)) (s:cE) (M:St) (H:Hp) (x y:V) (v u:cj) (Q:VK),Ë X cn M H s->Í x v->Í y u->t x y H Q ->
  cQ (c8 X.prog X.w) X.A (inplaceOp op v u) (EP X cn M Q) X.xe s
variable {es:List Expr}{g:TG}{n:Nat}{o tg:Expr}{pos' mq:oj}{to:TE}
def xY (i:Nat):TG:=λv M H Q=>Q (M.set i (U v)) H
theorem Ou (hN:X.N.Nodup)(hi:X.N[i]?=U x)(hx:õ X.env.scope x)(hf:uZ X x:=by walk_at "v2"):PG X (.Name x pos) (xY i):=by intro cn s M H v u Q I r h;exact wpAny_assign_Name (Ko I hN hi hx r (λs' I'=>⟨_,H,I',h⟩) hf)
def Iv:Bj:=λvs M H Q=>vs=[]/\Q M H
def EX (t:TG)(u:Bj):Bj:=λvs M H Q=>∃v r,vs=v::r/\t v M H λσ' H'=>u r σ' H' Q
theorem Ov:CY X [] Iv:=by intro cn s M H vs us Q I r h;obtain⟨e,h⟩:=h;subst e;cases r;exact assignInOrder_nil ⟨M,H,I,h⟩
theorem NP {t:TG}{u:Bj}(h1:PG X e t)(h2:CY X es u)
  (hs:(ef (e::es) X.env).map (·.2)=lK e X.env::(ef es X.env).map (·.2):=by rfl):CY X (e::es) (EX t u):=by
 intro cn s M H vs us Q I r h;obtain⟨v,vr,e1,h⟩:=h;subst e1;cases r with
 |cons r rr=>rw[hs];refine assignInOrder_cons (fX (h1 cn s M H _ _ _ I r h) λ_ s1 gK=>?_);obtain⟨σ1,H1,I1,q1⟩:=gK;exact h2 cn s1 σ1 H1 _ _ Q I1 rr q1
def Iy (K:cm)(n:Nat)(t:Bj):TG:=λv M H Q=>∃a xs,v=.ref a/\nG K H a xs/\xs.length=n/\t xs M H Q
theorem Pp {k:Nat}{t:Bj}(hc:X.calm=Â)(h:CY X es t)
  (hn:(ef es X.env).length=n:=by rfl) (m6:(ef es X.env).findIdx? (·.1)=L:=by rfl):PG X (.Tuple es k pos) (Iy X.K n t):=by
 intro cn s M H v u Q I r hw;obtain⟨a,xs,e1,hq,hl,hw⟩:=hw;subst e1;cases r;obtain⟨dZ,rv,ht,hz⟩:=I.tuple hq;refine assign_Tuple_tuple (I.ok.hd hc) ht (by simp[hn,←hl,rv.length]) m6 λh' hx=>?_;have I1:Ë X cn M H { s with heap:=h' }:=I.kept (t':=s.toks) λb o e=>hx b o (dg (cF e)) e;exact h cn _ M H xs _ Q I1 (by simpa using rv) hw
def Iw (to ti:TE)(t:Au):TG:=λv M H Q=>to M H λo H1=>ti M H1 λi H2=>t o i v H2 λH3=>Q M H3
theorem Pq {i:Expr}{ti:TE}{t:Au}(ho:PE X o to)(hi:PE X i ti)(hs:CZ X t)
  (ha:∀v,lK (.Subscript o i pos) X.env v=(do
   let ov ← f9 [v] (eF o X.env)
   let iv ← f9 [v,ov] (eF i X.env)
   kA pos
   f9 [v,ov,iv] (tG ov iv v)
   Ab [v,ov,iv] []):=by intro _;rfl):PG X (.Subscript o i pos) (Iw to ti t):=by
 intro cn s M H v u Q I r h;rw[ha];refine cq (oq (fX (ho cn s M H _ I h) λov s1 gK=>?_));obtain⟨x,H1,I1,r1,q1⟩:=gK;refine cq (oq (fX (hi cn s1 M H1 _ I1 q1) λiv s2 gK=>?_));obtain⟨y,H2,I2,r2,q2⟩:=gK;refine cq (rS (cq (oq (fX (hs cn s2 M H2 x y v ov iv u _ I2 r1 r2 r q2) λ_ s3 gK=>?_))));obtain⟨H3,I3,q3⟩:=gK;exact wpAny_release ⟨M,H3,I3,q3⟩
def Dy (te:TE)(g:TG):TS:=λD M H=>te M H λx H1=>g x M H1 D.nx
theorem Ld (he:PE X e te)(hg:PG X tg g)(hs:rR [tg] e pos.line X.env=pure Ã:=by rfl)(hw:rQ [tg] e X.env=pure L:=by rfl)
  (h1:(ef [tg] X.env).map (·.2)=[lK tg X.env]:=by rfl):PS X (.Assign [tg] e pos) (Dy te g):=by
 intro cn s M H D I h;refine wpAny_Assign_stores (fX (he cn s M H _ I h) λv s1 hq=>?_) hs hw;obtain⟨x,H1,I1,r1,q1⟩:=hq;rw[h1];exact fX (hg cn s1 M H1 x v _ I1 r1 q1) λ_ s2 q=>q
theorem Le (hN:X.N.Nodup)(hi:X.N[i]?=U x)(hx:õ X.env.scope x)(he:PE X e te)(hs:EO X e x pos' pos:=by rfl)(hf:uZ X x:=by walk_at "v2") :
  PS X (.Assign [.Name x pos'] e pos) (Dy te (xY i)):=by
 intro cn s M H D I h;refine wpAny_Assign_Name (fX (he cn s M H _ I h) λv s1 hq=>?_) hs;obtain⟨y,H1,I1,r1,q1⟩:=hq;exact Ko I1 hN hi hx r1 (λs2 I2=>⟨_,H1,I2,q1⟩) hf
def JV (i:Nat)(te:TE)(ti:DT):TS:=λD M H=>∃x,M[i]?=U (U x)/\te M H λy H1=>ti x y H1 λz H2=>D.nx (M.set i (U z)) H2
theorem Zr {op:qH}{ti:DT}(hN:X.N.Nodup)(hi:X.N[i]?=U x)(hx:õ X.env.scope x)(he:PE X e te)(ho:DS X op ti)(hf:uZ X x:=by walk_at "v2") :
  PS X (.AugAssign (.Name x pos') op e pos) (JV i te ti):=by
 intro cn s M H D I h;obtain⟨v,e1,h⟩:=h;obtain⟨m,hn,hl⟩:=I.loc;have SR:sm X.env.scope x:=by rcases hx with k|k;exact .inl k;exact .inr (.inl k)
 obtain⟨u,r,l⟩:=hl i x v hi e1 SR;refine wpAny_AugAssign_Name ?_;have go:cQ (c8 X.prog X.w) X.A (eF e X.env) (λw s₂=>cQ (c8 X.prog X.w) X.A (inplaceOp op u w) (λr s₃=>cQ (c8 X.prog X.w) X.A (storeName X.env x r) (λ_=>SP X cn D .next) X.xe s₃) X.xe s₂) X.xe s:=by refine fX (he cn s M H _ I h) λw s1 gK=>?_;obtain⟨y,H1,I1,r1,q1⟩:=gK;refine fX (ho cn s1 M H1 v y u w _ I1 r r1 q1) λz s2 gK=>?_;obtain⟨zv,H2,I2,r2,q2⟩:=gK;exact Ko I2 hN hi hx r2 (λs3 I3=>⟨_,H2,I3,q2⟩) hf
 rcases l with⟨hk,hm⟩|⟨hk,c,hc,sJ⟩
 ·exact wpAny_loadName_local I.ok.kind hk hn hm go
 ·rcases hk with hk|hk
  ·exact wpAny_loadName_cell I.ok.kind hk hc sJ go
  ·rcases hx with k|k
   ·have:X.env.scope.names.lookup x=U .free:=hk;rw[k]at this;cases this
   ·have:X.env.scope.names.lookup x=U .free:=hk;rw[k]at this;cases this
def FY (to ti te:TE)(B7:V->V->Hp->VK->Prop)(G9:DT)(B8:Au):TS:=λD M H=>to M H λo H1=>ti M H1 λi H2=>B7 o i H2 λx H3=>te M H3 λy H4=>G9 x y H4 λz H5=>B8 o i z H5 λH6=>D.nx M H6
def EI (X:Cx)(t:V->V->Hp->VK->Prop):Prop :=
 ∀(cn:List (cr×iZ)) (s:cE) (M:St) (H:Hp) (o i:V) (ov iv:cj) (Q:VK),Ë X cn M H s->Í o ov->Í i iv->t o i H Q ->
  cQ (c8 X.prog X.w) X.A (qN ov iv) (EP X cn M Q) X.xe s
theorem Yb {i:Expr}{ti:TE}{B7:V->V->Hp->VK->Prop}{G9:DT}{B8:Au}{op:qH}(ho:PE X o to)(hi:PE X i ti)(hg:EI X B7)(he:PE X e te)(hp:DS X op G9)(hs:CZ X B8)
  (ha:∀ov iv new,augStore i ov iv new=(do f9 [new,ov,iv] (tG ov iv new);Ab [new,ov,iv] [];pure .next):=by intros;rfl):PS X (.AugAssign (.Subscript o i mq) op e pos) (FY to ti te B7 G9 B8):=by
 intro cn s M H D I h;refine wpAny_AugAssign_SubscriptAny (fX (ho cn s M H _ I h) λov s1 hq=>?_) ha;obtain⟨x1,H1,I1,r1,q1⟩:=hq;refine fX (hi cn s1 M H1 _ I1 q1) λiv s2 gK=>?_;obtain⟨x2,H2,I2,r2,q2⟩:=gK;refine fX (hg cn s2 M H2 x1 x2 ov iv _ I2 r1 r2 q2) λold s3 gK=>?_;obtain⟨x3,H3,I3,r3,q3⟩:=gK;refine fX (he cn s3 M H3 _ I3 q3) λv s4 gK=>?_;obtain⟨x4,H4,I4,r4,q4⟩:=gK;refine fX (hp cn s4 M H4 x3 x4 old v _ I4 r3 r4 q4) λnew s5 gK=>?_;obtain⟨x5,H5,I5,r5,q5⟩:=gK;exact fX (hs cn s5 M H5 x1 x2 x5 ov iv new _ I5 r1 r2 r5 q5) λ_ s6 ⟨H6,I6,q6⟩=>⟨M,H6,I6,q6⟩
def G1 (f:Int->Int->Int):DT:=λx y H Q=>∃i j,x=.int i/\y=.int j/\Q (.int (f i j)) H
theorem Ps:DS X .Add (G1 λi j=>i+j):=by intro cn s M H x y v u Q I r1 r2 h;obtain⟨i,j,e1,e2,q⟩:=h;subst e1;subst e2;obtain⟨t,rfl⟩:=r1;obtain⟨t',rfl⟩:=r2;exact iadd_int ⟨.int _,H,I.tok _,⟨_,rfl⟩,q⟩
theorem Pt:DS X .Sub (G1 λi j=>i-j):=by intro cn s M H x y v u Q I r1 r2 h;obtain⟨i,j,e1,e2,q⟩:=h;subst e1;subst e2;obtain⟨t,rfl⟩:=r1;obtain⟨t',rfl⟩:=r2;exact isub_int ⟨.int _,H,I.tok _,⟨_,rfl⟩,q⟩
variable {body:List dS}
def DF (c:TT)(tb:TS):TS:=λD M H=>∃W:Nat->St->Hp->Prop,(∃m,W m M H)/\∀m M H,W m M H ->
 c M H λb H1=>if b=Â then∃N:St->Hp->Prop,(∀σ' H',N σ' H'->∃m',m'<m/\W m' σ' H')/\tb { D with nx:=N,ct:=N,bk:=D.nx } M H1 else D.nx M H1
theorem Wu {tc:TT}{tb:TS}(hp:mY (c8 X.prog X.w) X.A X.env X.xe)(hc:PT X c tc)(hb:xA X body tb):PS X (.While c body [] pos) (DF tc tb):=by
 intro cn s M H D I h;obtain⟨W,⟨m0,w0⟩,xO⟩:=h;refine wpAny_While (codeAny_whileLoop (λn s'=>∃σ' H',Ë X cn σ' H' s'/\W n σ' H') ?_ m0 ⟨M,H,I,w0⟩);rintro n s1 ⟨σ1,H1,I1,w1⟩;refine iL hp (fX (hc cn s1 σ1 H1 _ I1 (xO n σ1 H1 w1)) λb s2 gK=>?_);obtain⟨H2,I2,q2⟩:=gK;cases b with
 |true=>
  obtain⟨N,hN,q2⟩:=q2;rw[if_pos rfl];refine iL hp (fX (hb cn s2 σ1 H2 _ I2 q2) λf s3 q3=>?_);cases f with
  |next=>obtain⟨σ3,H3,I3,n3⟩:=q3;obtain⟨m',hm,w3⟩:=hN σ3 H3 n3;exact⟨m',hm,σ3,H3,I3,w3⟩
  |cont=>obtain⟨σ3,H3,I3,n3⟩:=q3;obtain⟨m',hm,w3⟩:=hN σ3 H3 n3;exact⟨m',hm,σ3,H3,I3,w3⟩
  |brk=>exact q3
  |ret v=>exact q3
 |false=>rw[if_neg cI];exact pK ⟨σ1,H2,I2,q2⟩
structure It where
 go:Nat->Hp->Prop
 yld:Nat->Hp->V->Hp->Prop
 stop:Nat->Hp->Prop
def rT (X:Cx)(cn:List (cr×iZ))(H:Hp)(b:cr):Prop :=
 H b=L/\b≠X.env.locals/\b∉X.fs/\(b∈X.ex\/X.s₀.heap.objs.size<=b)/\(∀x c,X.env.cells.lookup x=U c->c≠b)/\∀p∈X.pn++cn,p.1≠b
theorem Ë.fpOk (I:Ë X cn M H s)(hb:s.heap.objs.size<=b)(hn:H' b=L):rT X cn H' b:=by
 refine⟨hn,kE (di I.lt hb),I.nofs hb,.inr (d8 I.sz hb),λx c e z=>?_,λp hp z=>?_⟩
 ·obtain⟨v,q⟩:=I.cell x c e;exact absurd (di q.lt (by rw[z];exact hb)) (iD _)
 ·exact absurd (di (cF (I.pin p hp).1) (by rw[z];exact hb)) (iD _)
structure Cq (P:eu)(w:dP)(K:cm)(tg:Expr)(ϗ:It)(fp:List cr)(it:cr)(tn:Nat->cM->Prop)(Cs:Cx->Prop):Prop where
 mem:it∈fp
 obj:∀i h,tn i h->∀b∈fp,∃o,h.get? b=U o/\∀v,o.data≠.cell v
 keep:∀i h h',tn i h->(∀b∈fp,∀o,h.get? b=U o->h'.get? b=U o)->tn i h'
 item:∀(X:Cx),X.prog=P->X.w=w->X.K=K->Cs X->∀(i:Nat) (cn:List (cr×iZ)) (s:cE) (M:St) (H:Hp) (E:cj->cE->Prop),Ë X cn M H s->(∀b∈fp,rT X cn H b)->tn i s.heap->ϗ.go i H ->
  cQ (c8 P w) X.A (pyNext (.ref it)) (λr s1=>∃u,r=U u /\
   cQ (c8 P w) X.A (mr tg (.ref it) u) (λ_ s2=>∃x H',Ë X cn M H' s2/\Í x u/\ϗ.yld i H x H'/\tn (i+1) s2.heap/\∀b∈fp,H' b=L) E s1) E s
 done:∀(X:Cx),X.prog=P->X.w=w->X.K=K->Cs X->∀(i:Nat) (cn:List (cr×iZ)) (s:cE) (M:St) (H:Hp) (E:cj->cE->Prop),Ë X cn M H s->(∀b∈fp,rT X cn H b)->tn i s.heap->ϗ.stop i H ->
  cQ (c8 P w) X.A (pyNext (.ref it)) (λr s1=>r=L/\Ë X cn M H s1) E s
 self:∀(A:dQ) (i:Nat) (s:cE) (Q:cj->cE->Prop) (E:cj->cE->Prop),tn i s.heap->Q (.ref it) s->cQ (c8 P w) A (pyIter (.ref it)) Q E s
abbrev ù (P:eu)(w:dP)(K:cm)(tg:Expr)(ϗ:It)(fp:List cr)(it:cr)(tn:Nat->cM->Prop):Prop:=Cq P w K tg ϗ fp it tn λX=>X.calm=Â
abbrev TI:=St->Hp->(It->Hp->Prop)->Prop
def ÿ (X:Cx)(c:Prop)(tg:Expr)(ϗ:It)(fp:List cr)(it:cr)(tn:Nat->cM->Prop):Prop:=∃Cs,Cq X.prog X.w X.K tg ϗ fp it tn Cs/\(c->∀Ϛ:Cx,Ϛ.A=X.A->Ϛ.calm=X.calm->Cs Ϛ)
variable {fp:List cr}
theorem ù.ok {ϗ:It}{tn:Nat->cM->Prop}(T:ù X.prog X.w X.K tg ϗ fp it tn):ÿ X (X.calm=Â) tg ϗ fp it tn:=⟨_,T,λhc _ _ e=>e.trans hc⟩
def EJ (X:Cx)(c:Prop)(cn:List (cr×iZ))(M:St)(tg:Expr)(R:It->Hp->Prop)(Jq:cj)(s2:cE):Prop :=
 ∃(it:cr) (fp:List cr) (tn:Nat->cM->Prop) (ϗ:It) (H':Hp),Jq=.ref it/\Ë X cn M H' s2/\ÿ X c tg ϗ fp it tn/\tn 0 s2.heap/\(∀b∈fp,rT X cn H' b)/\R ϗ H'
abbrev Qp (X:Cx):=EJ X (X.calm=Â)
def EK (X:Cx)(c:Prop)(tg iter:Expr)(wi:TI):Prop :=
 ∀(cn:List (cr×iZ)) (s:cE) (M:St) (H:Hp) (R:It->Hp->Prop),Ë X cn M H s->wi M H R ->
  cQ (c8 X.prog X.w) X.A (eF iter X.env) (λv s1=>cQ (c8 X.prog X.w) X.A (pyIter v) (EJ X c cn M tg R) X.xe s1) X.xe s
abbrev PI (X:Cx):=EK X (X.calm=Â)
theorem Lr {A:dQ}{o:iZ}{n:String}{vs:Array cj}{Q:Unit->cE->Prop}(ho:s.heap.get? it=U o)(hc:o.cls=.type n)(hd:o.data=.fields vs)
    (hn:["enumerate","zip","dict_itemiterator","dict_reverseitemiterator","odict_iterator","itertools.zip_longest","itertools.pairwise"].contains n=Ã) (hQ:Q () s):cQ ϖ A (mr tg (.ref it) u) Q E s:=by
  unfold mr;cases tg<;>first
    |exact cP hQ
    |(cases u<;>first
        |exact cP hQ
        |(refine cq (wpAny_load ho ?_)
          rw[hc,hd];show cQ ϖ A (if(["enumerate","zip","dict_itemiterator","dict_reverseitemiterator","odict_iterator","itertools.zip_longest","itertools.pairwise"].contains n&&vs[0]?==U (rawInt _))=Â then _ else _) Q E s;rw[if_neg (by intro h;rw[hn,Bw]at h;cases h)];exact cP hQ))
noncomputable def Ih (K:cm)(a:cr):It :=
 ⟨λi H=>∃xs x,ir K H a xs/\xs[i]?=U x,λi H x H'=>H'=H/\∀xs,ir K H a xs->xs[i]?=U x,λi H=>∃xs,ir K H a xs/\xs.length<=i⟩
noncomputable def EC (lo:Int)(n:Nat):It:=⟨λi _=>i<n,λi H x H'=>H'=H/\x=.int (lo+i),λi _=>n<=i⟩
theorem Vv {w:dP}{K:cm}(a it:cr):ù P w K tg (Ih K a) [it] it (λi h=>h.IsListIter it a i) where
 mem:=by simp
 obj:=λi h st b hb=>by
  have e:b=it:=by simpa using hb
  subst e;obtain⟨o,e,c,d⟩:=st;exact⟨o,e,λv z=>by rw[d]at z;cases z⟩
 keep:=λi h h' st k=>st.at λo e=>k it (by simp) o e
 item:=by intro X hP hw hK hc i cn s M H E I hf st hg;subst hP hw hK;obtain⟨xs,x,hq,hx⟩:=hg;obtain⟨dZ,rv,p,hz⟩:=I.list hq;obtain⟨u,hu,ru⟩:=rv.get hx;obtain⟨f0,f1,f2,f3,f4,f5⟩:=hf it (by simp);refine wpAny_pyNext_list_item st p.isList (x:=u) (by simpa using hu) λh' Ah sb=>?_;have I1:Ë X cn M H { s with heap:=h' }:=I.turned (t':=s.toks) (λb o hb e=>(sb.2 b hb).trans e) f0 f1 f3 f4 f5;obtain⟨o,e,c,d⟩:=id Ah;exact⟨u,rfl,Lr (s:={ s with heap:=h' }) e c d (by decide) ⟨x,H,I1,ru,⟨rfl,λys hy=>by rw[I.list_inj hy hq];exact hx⟩,Ah,λb hb=>(hf b hb).1⟩⟩
 done:=by intro X hP hw hK hc i cn s M H E I hf st hg;subst hP hw hK;obtain⟨xs,hq,hx⟩:=hg;obtain⟨dZ,rv,p,hz⟩:=I.list hq;obtain⟨f0,f1,f2,f3,f4,f5⟩:=hf it (by simp);have hl:=rv.length;exact wpAny_pyNext_list_end (I.ok.hd hc) st p.isList (by simp;omega) λh' eb=>⟨rfl,I.turned (t':=s.toks) (λb o hb e=>eb b o hb e) f0 f1 f3 f4 f5⟩
 self:=λ_ _ _ _ _ st h=>wpAny_pyIter_listiter st h
theorem UJ {w:dP}{K:cm}(it:cr)(lo:Int)(n:Nat):ù P w K tg (EC lo n) [it] it (λi h=>IsRangeIter h it (lo+(i:Nat)*1) ((n:Int)-(i:Nat)) 1) where
 mem:=by simp
 obj:=λi h st b hb=>by
  have e:b=it:=by simpa using hb
  subst e;exact⟨_,st,λv z=>by have z':zZ.fields _=zZ.cell v:=z;cases z'⟩
 keep:=λi h h' st k=>k it (by simp) _ st
 item:=by intro X hP hw hK hc i cn s M H E I hf st hg;subst hP hw hK;obtain⟨f0,f1,f2,f3,f4,f5⟩:=hf it (by simp);have W:=Walks.range (prog:=X.prog) (w:=X.w) (I.ok.hd hc) it lo 1 n;refine W.item i s _ _ hg st λv h' tk hv Ah kk=>?_;obtain⟨t,rfl⟩:=hv;have I1:Ë X cn M H { s with heap:=h',toks:=tk }:=I.turned (λb o hb e=>kk b o (by simpa using hb) e) f0 f1 f3 f4 f5;refine⟨_,rfl,Lr (s:={ s with heap:=h',toks:=tk }) (n:="range_iterator") Ah rfl rfl (by decide) ⟨.int (lo+i),H,I1,⟨t,?_⟩,⟨rfl,rfl⟩,Ah,λb hb=>(hf b hb).1⟩⟩;rw[Int.mul_one]
 done:=by intro X hP hw hK hc i cn s M H E I hf st hg;subst hP hw hK;obtain⟨f0,f1,f2,f3,f4,f5⟩:=hf it (by simp);exact wpAny_pyNext_range_end (I.ok.hd hc) st (by have:n<=i:=hg;omega) λh' eb=>⟨rfl,I.turned (t':=s.toks) (λb o hb e=>eb b o hb e) f0 f1 f3 f4 f5⟩
 self:=λ_ _ _ _ _ st h=>wpAny_pyIter_rangeiter st h
variable {iter l:Expr}{p:oj}{wi:TI}
def Fp (K:cm)(tl:TE):TI:=λM H R=>tl M H λx H1=>∃a,x=.ref a/\(∃xs,ir K H1 a xs)/\R (Ih K a) H1
theorem Hq {tl:TE}(hl:PE X l tl):PI X tg l (Fp X.K tl):=by
 intro cn s M H R I h;refine fX (hl cn s M H _ I h) λv s1 gK=>?_;obtain⟨x,H1,I1,r1,q1⟩:=gK;obtain⟨a,e,⟨xs,hq⟩,q⟩:=q1;subst e;cases r1;obtain⟨dZ,rv,p,hz⟩:=I1.list hq;refine tH p.isList ?_;refine⟨s1.heap.objs.size,[s1.heap.objs.size],_,_,H1,rfl,I1.kept (t':=s1.toks) λb o e=>cw _ e,(Vv a _).ok,⟨_,dc _ rfl,rfl,rfl⟩,λb hb=>?_,q⟩;have e:b=s1.heap.objs.size:=by simpa using hb
 subst e;exact I1.fpOk (cH _) (I1.hok.fresh (cH _))
theorem NQ {R:It->Hp->Prop}{lo hi:Int}{t u v:Tok}{tk:Nat}(I:Ë X cn M H s)(h1:-(2 ^ 62)<=lo)(h2:lo<2 ^ 62)(h3:-(2 ^ 62)<=hi)(h4:hi<2 ^ 62)
    (q:R (EC lo (hi-lo).toNat) H):cQ (c8 X.prog X.w) X.A (pyIter (.ref s.heap.objs.size)) (Qp X cn M tg R) E { s with heap:=s.heap.push { cls:=.type "range",data:=.fields #[.int lo t,.int hi u,.int 1 v] },toks:=tk }:=by
  refine wpAny_pyIter_range (IsRange.new ..) (small_one h1 h2 h3 h4) ?_;have I1:Ë X cn M H { s with heap:=s.heap.push { cls:=.type "range",data:=.fields #[.int lo t,.int hi u,.int 1 v] },toks:=tk }:=I.kept λb o e=>cw _ e;refine⟨(s.heap.push { cls:=.type "range",data:=.fields #[.int lo t,.int hi u,.int 1 v] }).objs.size,[(s.heap.push { cls:=.type "range",data:=.fields #[.int lo t,.int hi u,.int 1 v] }).objs.size],_,_,H,rfl,
    I1.kept (t':=tk) λb o e=>cw _ e,(UJ _ lo (hi-lo).toNat).ok,?_,λb hb=>?_,q⟩
  · have e1:lo+((0:Nat):Int)*1=lo:=by simp
    have e2:(((hi-lo).toNat:Nat):Int)-((0:Nat):Int)=Builtin.Range.rangeSize lo hi 1:=by rw[rangeSize_one];split<;>omega
    show IsRangeIter _ _ (lo+((0:Nat):Int)*1) ((((hi-lo).toNat:Nat):Int)-((0:Nat):Int)) 1;rw[e1,e2];exact dc _ rfl
  · have e:b=(s.heap.push { cls:=.type "range",data:=.fields #[.int lo t,.int hi u,.int 1 v] }).objs.size:=by simpa using hb
    subst e;exact I1.fpOk (cH _) (I1.hok.fresh (cH _))
def Fs (ta:TA):TI:=λM H R=>ta M H λvs H1=>∃j:Int,vs=[.int j]/\-(2 ^ 62)<=j/\j<2 ^ 62/\R (EC 0 j.toNat) H1
def Ft (ta:TA):TI:=λM H R=>ta M H λvs H1=>∃i j:Int,vs=[.int i,.int j]/\(-(2 ^ 62)<=i/\i<2 ^ 62/\-(2 ^ 62)<=j/\j<2 ^ 62)/\R (EC i (j-i).toNat) H1
theorem Vw {a:Expr}{ta:TA}(hg:Gl X "range")(hm:X.mg "range"=L)(ha:PA X [a] ta)(hs:SN X a:=by rfl):PI X tg (.Call (.Name "range" p) [a] [] pos) (Fs ta):=by
 intro cn s M H R I h;refine Call_ (j9 I hg hm boot_range (eT (fX (ha pos cn s M H _ I h) λus s1 hq=>?_) hs rfl));obtain⟨vs,H1,I1,r1,q1⟩:=hq;obtain⟨j,e,q1,q2,q⟩:=q1;subst e;cases r1 with
 |cons r rr=>cases rr;obtain⟨t,rfl⟩:=r;exact call_range_1 (NQ I1 (by omega) (by omega) q1 q2 (by simpa using q))
theorem Vx {a b:Expr}{ta:TA}(hg:Gl X "range")(hm:X.mg "range"=L)(ha:PA X [a,b] ta)(hs:dD [a,b] X.env=[(Ã,eF a X.env),(Ã,eF b X.env)]:=by rfl)(tS:SN X b:=by rfl) :
  PI X tg (.Call (.Name "range" p) [a,b] [] pos) (Ft ta):=by
 intro cn s M H R I h;refine Call_ (j9 I hg hm boot_range (eT (fX (ha pos cn s M H _ I h) λus s1 ⟨vs,H1,I1,r1,q1⟩=>?_) (by rw[hs,tS]) (by rw[tS];rfl)));obtain⟨i,j,e,⟨q1,q2,q3,q4⟩,q⟩:=q1;subst e;cases r1 with
 |cons r rr=>
  cases rr with
  |cons r' rr=>cases rr;obtain⟨t,rfl⟩:=r;obtain⟨t',rfl⟩:=r';exact call_range_2 (NQ I1 q1 q2 q3 q4 q)
def JZ (wi:TI)(g:TG)(tb:TS):TS:=λD M H=>wi M H λϗ H1=>∃W:Nat->Nat->St->Hp->Prop,(∃m,W 0 m M H1)/\∀i m M H,W i m M H ->
 (ϗ.stop i H/\D.nx M H)\/(ϗ.go i H/\∃N:St->Hp->Prop,(∀σ' H',N σ' H'->∃m',m'<m/\W (i+1) m' σ' H')/\∀x H',ϗ.yld i H x H'->g x M H' λσ2 H2=>tb { D with nx:=N,ct:=N,bk:=D.nx } σ2 H2)
noncomputable def sS (fp:List cr)(h:cM):List (cr×iZ):=fp.filterMap λb=>(h.get? b).map λo=>(b,o)
theorem v8 {o:iZ}(hb:b∈fp)(e:h.get? b=U o):(b,o)∈sS fp h:=yM.mpr ⟨b,hb,by rw[e];rfl⟩
theorem Vy {p:cr×iZ}(hp:p∈sS fp h):p.1∈fp/\h.get? p.1=U p.2:=by
 obtain⟨b,hb,e⟩:=yM.mp hp;cases q:h.get? b with
 |none=>rw[q]at e;cases e
 |some o=>rw[q]at e;have e':(b,o)=p:=Option.some.inj e;subst e';exact⟨hb,q⟩
theorem Ë.pinned (I:Ë X cn M H s)(hf:∀b∈fp,rT X cn H b)(ho:∀b∈fp,∃o,s.heap.get? b=U o/\∀v,o.data≠.cell v):Ë X (cn++sS fp s.heap) M H s :=
 I.pins_of λp hp=>(cW.mp hp).elim (λz=>I.pin p (cC _ z)) λz=>by obtain⟨hb,e⟩:=Vy z;obtain⟨f0,f1,f2,_⟩:=hf p.1 hb;obtain⟨o,e',d⟩:=ho p.1 hb;rw[e]at e';cases e';exact⟨e,f0,f1,f2,d⟩
theorem Ë.unpinned {pl:List (cr×iZ)}(I:Ë X (cn++pl) M H s):Ë X cn M H s:=I.pins_of λp hp=>I.pin p (cC _ (c7 _ hp))
theorem Zs {tb:TS}(hp:mY (c8 X.prog X.w) X.A X.env X.xe)(hc:X.calm=Â)(hi:PI X tg iter wi)(hg:PG X tg g)(hb:xA X body tb)
  (hs:Ao X iter:=by intro _;rfl):PS X (.For tg iter body [] pos) (JZ wi g tb):=by
 intro cn s M H D I h;refine wpAny_For (fX (hi cn s M H _ I h) λv s1 h1=>fX h1 λJq s2 h2=>?_) hs;obtain⟨it,fp,tn,ϗ,H2,e,I2,T,yH,f2,W,⟨m0,w0⟩,xO⟩:=h2;obtain⟨Cs,T,hT⟩:=T;have hc:=hT hc X rfl rfl;subst e;have xN:∀{H':Hp},(∀b∈fp,H' b=L)->∀b∈fp,rT X cn H' b:=λhn b hb=>⟨hn b hb,(f2 b hb).2⟩;refine codeAny_forLoop_any (λn s'=>∃i σ' H',Ë X cn σ' H' s'/\tn i s'.heap/\(∀b∈fp,H' b=L)/\W i n σ' H') ?_ m0 ⟨0,M,H2,I2,yH,λb hb=>(f2 b hb).1,w0⟩;rintro n s3 ⟨i,σ3,H3,I3,MA,LQ,w3⟩;rcases xO i n σ3 H3 w3 with⟨stop,qn⟩|⟨go,N,hN,step⟩
 ·refine iL hp (fX (T.done X rfl rfl rfl hc i cn s3 σ3 H3 X.xe I3 (xN LQ) MA stop) λr s4 gK=>?_);obtain⟨hr,I4⟩:=gK;subst hr;exact pK ⟨σ3,H3,I4,qn⟩
 ·refine iL hp (fX (T.item X rfl rfl rfl hc i cn s3 σ3 H3 X.xe I3 (xN LQ) MA go) λr s4 gK=>?_);obtain⟨u,hr,h4⟩:=gK;subst hr;refine iL hp (fX h4 λ_ s5 gK=>?_);obtain⟨x,H5,I5,r5,y5,D8,GN⟩:=gK;have Qm:=I5.pinned (xN GN) (T.obj _ _ D8);refine iL hp (fX (hg _ s5 σ3 H5 x u _ Qm r5 (step x H5 y5)) λ_ s6 gK=>?_);obtain⟨σ6,H6,I6,q6⟩:=gK;refine iL hp (fX (hb _ s6 σ6 H6 _ I6 q6) λf s7 q7=>?_);have again:∀{σ7:St} {H7:Hp},Ë X (cn++sS fp s5.heap) σ7 H7 s7->N σ7 H7->∃m,m<n/\∃i σ' H',Ë X cn σ' H' s7/\tn i s7.heap/\(∀b∈fp,H' b=L)/\W i m σ' H':=λ{σ7 H7} I7 n7=>by obtain⟨m',hm,w7⟩:=hN σ7 H7 n7;refine⟨m',hm,i+1,σ7,H7,I7.unpinned,T.keep _ _ _ D8 λb hb o e=>(I7.pin (b,o) (cC _ (cC _ (v8 hb e)))).1,λb hb=>?_,w7⟩;obtain⟨o,e,d⟩:=T.obj _ _ D8 b hb;exact(I7.pin (b,o) (cC _ (cC _ (v8 hb e)))).2.1
  cases f with
  |next=>obtain⟨σ7,H7,I7,n7⟩:=q7;exact again I7 n7
  |cont=>obtain⟨σ7,H7,I7,n7⟩:=q7;exact again I7 n7
  |brk=>obtain⟨σ7,H7,I7,q7⟩:=q7;exact⟨σ7,H7,I7.unpinned,q7⟩
  |ret v=>obtain⟨x7,σ7,H7,I7,r7,q7⟩:=q7;exact⟨x7,σ7,H7,I7.unpinned,r7,q7⟩
abbrev R2:=V->V->Hp->VK->Prop
def li (X:Cx)(f:cj->cj->Ci cj)(r:R2):Prop :=
 ∀(cn:List (cr×iZ)) (s:cE) (M:St) (H:Hp) (x y:V) (v u:cj) (Q:VK),Ë X cn M H s->Í x v->Í y u->r x y H Q ->
  cQ (c8 X.prog X.w) X.A (f v u) (EP X cn M Q) X.xe s
def GB (X:Cx)(f:cj->Ci cj)(r:V->Hp->VK->Prop):Prop :=
 ∀(cn:List (cr×iZ)) (s:cE) (M:St) (H:Hp) (x:V) (v:cj) (Q:VK),Ë X cn M H s->Í x v->r x H Q ->
  cQ (c8 X.prog X.w) X.A (f v) (EP X cn M Q) X.xe s
def iW (X:Cx)(f:cj)(r:List V->Hp->VK->Prop):Prop :=
 ∀(cn:List (cr×iZ)) (s:cE) (M:St) (H:Hp) (xs:List V) (us:List cj) (Q:VK),Ë X cn M H s->dU xs us->r xs H Q ->
  cQ (c8 X.prog X.w) X.A (call f us) (EP X cn M Q) X.xe s
def G7 (r:R2)(ta tb:TE):TE:=λM H Q=>ta M H λx H1=>tb M H1 λy H2=>r x y H2 Q
def SH (r:V->Hp->VK->Prop)(ta:TE):TE:=λM H Q=>ta M H λx H1=>r x H1 Q
def rI (ϛ:Int->Int->Prop)(g:Int->Int->V):R2:=λx y H Q=>∃i j,x=.int i/\y=.int j/\ϛ i j/\Q (g i j) H
def wN (g:Int->Int->V):R2:=λx y H Q=>∃i j,x=.int i/\y=.int j/\Q (g i j) H
def rU (g:Int->V):V->Hp->VK->Prop:=λx H Q=>∃i,x=.int i/\Q (g i) H
variable {r:R2}
section
variable {a b:Expr}{tc:TE}
theorem C1 (ha:PE X a ta)(hb:PE X b tb){R:V->V->Hp->Prop}(I:Ë X cn M H s)
  (h:ta M H λx H1=>tb M H1 λy H2=>R x y H2) {f:cj->cj->Ci cj}
  (hf:∀v u s2 x y H2,Ë X cn M H2 s2->Í x v->Í y u->R x y H2->cQ (c8 X.prog X.w) X.A (f v u) Q X.xe s2) :
  cQ (c8 X.prog X.w) X.A (eF a X.env) (λv s₁=>cQ (c8 X.prog X.w) X.A (eF b X.env) (λu s₂=>cQ (c8 X.prog X.w) X.A (f v u) Q X.xe s₂) X.xe s₁) X.xe s:=by
 refine fX (ha cn s M H _ I h) λv s1 gK=>?_;obtain⟨x,H1,I1,r1,q1⟩:=gK;refine fX (hb cn s1 M H1 _ I1 q1) λu s2 gK=>?_;obtain⟨y,H2,I2,r2,q2⟩:=gK;exact hf v u s2 x y H2 I2 r1 r2 q2
theorem Ls {op:qH}(ho:li X (gI op) r)(ha:PE X a ta)(hb:PE X b tb):PE X (.BinOp a op b pos) (G7 r ta tb):=by intro cn s M H Q I h;exact wpAny_BinOp (C1 ha hb I h λv u s2 x y H2 I2 rx ry q=>ho cn s2 M H2 x y v u Q I2 rx ry q)
theorem Ļ {op:UnaryOp}{r:V->Hp->VK->Prop}(ho:GB X (unaryOp op) r)(ha:PE X a ta):PE X (.UnaryOp op a pos) (SH r ta):=by intro cn s M H Q I h;exact UnaryOp_ (fX (ha cn s M H _ I h) λv s1 ⟨x,H1,I1,r1,q1⟩=>ho cn s1 M H1 x v Q I1 r1 q1)
theorem D6 {f:cj->cj->Ci cj}{ϛ:Int->Int->Prop}{g:Int->Int->Int}
  (rule:∀(i j:Int) (t u:Tok) (s:cE) (Q:cj->cE->Prop) (E:cj->cE->Prop),ϛ i j->Q (.int (g i j) s.toks) { s with toks:=s.toks+1 }->cQ (c8 X.prog X.w) X.A (f (.int i t) (.int j u)) Q E s) :
  li X f (rI ϛ λi j=>.int (g i j)):=by
 intro cn s M H x y v u Q I rx ry h;obtain⟨i,j,rfl,rfl,hc,q⟩:=h;obtain⟨t,rfl⟩:=rx;obtain⟨t',rfl⟩:=ry;exact rule i j t t' s _ _ hc ⟨.int (g i j),H,I.tok _,⟨_,rfl⟩,q⟩
theorem FH {f:cj->cj->Ci cj}{g:Int->Int->Int}
  (rule:∀(i j:Int) (t u:Tok) (s:cE) (Q:cj->cE->Prop) (E:cj->cE->Prop),Q (.int (g i j) s.toks) { s with toks:=s.toks+1 }->cQ (c8 X.prog X.w) X.A (f (.int i t) (.int j u)) Q E s) :
  li X f (wN λi j=>.int (g i j)):=by
 intro cn s M H x y v u Q I rx ry h;obtain⟨i,j,rfl,rfl,q⟩:=h;obtain⟨t,rfl⟩:=rx;obtain⟨t',rfl⟩:=ry;exact rule i j t t' s _ _ ⟨.int (g i j),H,I.tok _,⟨_,rfl⟩,q⟩
theorem BU {f:cj->cj->Ci cj}{g:Int->Int->Bool}
  (rule:∀(i j:Int) (t u:Tok) (s:cE) (Q:cj->cE->Prop) (E:cj->cE->Prop),Q (.bool (g i j)) s->cQ (c8 X.prog X.w) X.A (f (.int i t) (.int j u)) Q E s) :
  li X f (wN λi j=>.bl (g i j)):=by
 intro cn s M H x y v u Q I rx ry h;obtain⟨i,j,rfl,rfl,q⟩:=h;obtain⟨t,rfl⟩:=rx;obtain⟨t',rfl⟩:=ry;exact rule i j t t' s _ _ ⟨.bl (g i j),H,I,rfl,q⟩
def Bx (i j:Int):Prop:=0<=j/\j<=1000000/\i.natAbs<2 ^ 64
def CT (i j:Int):Prop:=(-(2 ^ 64)<i/\i<2 ^ 64)\/(-(2 ^ 64)<j/\j<2 ^ 64)
theorem CT.ok {i j:Int}(h:CT i j):IntMulOk i j:=by
 rcases h with⟨h1,h2⟩|⟨h1,h2⟩
 ·exact .of_left (intBits_le_64 h1 h2)
 ·exact .of_right (intBits_le_64 h1 h2)
theorem UT (k:Nat):(0:Int)<=2 ^ k:=by rw[two_pow_cast];exact zT _
theorem Zt:li X (gI .Add) (wN λi j=>.int (i+j)):=FH λ_ _ _ _ _ _ _ q=>add_int q
theorem Zu:li X (gI .Sub) (wN λi j=>.int (i-j)):=FH λ_ _ _ _ _ _ _ q=>sub_int q
theorem Yc:li X (gI .Mod) (rI (λ_ j=>j≠0) λi j=>.int (i.fmod j)):=D6 λ_ _ _ _ _ _ _ hc q=>mod_int' hc q
theorem Zv:li X (gI .Pow) (rI Bx λi j=>.int (i ^ j.toNat)):=D6 λ_ _ _ _ _ _ _ hc q=>pow_int_small hc.1 hc.2.1 hc.2.2 q
theorem Zw:li X (gI .LShift) (rI Bx λi j=>.int (i*2 ^ j.toNat)):=D6 λ_ _ _ _ _ _ _ hc q=>lshift_int_small hc.1 hc.2.1 hc.2.2 q
theorem Pu:li X (gI .RShift) (rI (λ_ j=>0<=j) λi j=>.int (i/2 ^ j.toNat)):=D6 λi j _ _ _ _ _ hc q=>rshift_int hc (by rw[tX i (UT _)];exact q)
theorem SK {f:cj->Ci cj}{g:Int->Int}
  (rule:∀(i:Int) (t:Tok) (s:cE) (Q:cj->cE->Prop) (E:cj->cE->Prop),Q (.int (g i) s.toks) { s with toks:=s.toks+1 }->cQ (c8 X.prog X.w) X.A (f (.int i t)) Q E s) :
  GB X f (rU λi=>.int (g i)):=by
 intro cn s M H x v Q I rx h;obtain⟨i,rfl,q⟩:=h;obtain⟨t,rfl⟩:=rx;exact rule i t s _ _ ⟨.int (g i),H,I.tok _,⟨_,rfl⟩,q⟩
theorem Zx:GB X (unaryOp .USub) (rU λi=>.int (-i)):=SK λ_ _ _ _ _ q=>neg_int q
end
section
variable {a b:Expr}{tc:TE}
theorem HK {Q:VK}{k k':Bool}(I:Ë X cn M H s)(q:Q (.bl k) H)(e:k=k'):EP X cn M Q (.bool k') s:=by subst e;exact⟨.bl k,H,I,rfl,q⟩
theorem P3:li X (eh .Lt) (wN λi j=>.bl (decide (i<j))):=BU λ_ _ _ _ _ _ _ q=>lt_int q
theorem ĺ:li X (eh .LtE) (wN λi j=>.bl (decide (i<=j))):=BU λ_ _ _ _ _ _ _ q=>le_int q
theorem Ĺ:li X (eh .Gt) (wN λi j=>.bl (decide (j<i))):=BU λ_ _ _ _ _ _ _ q=>gt_int q
theorem P4:li X (eh .GtE) (wN λi j=>.bl (decide (j<=i))):=BU λ_ _ _ _ _ _ _ q=>ge_int q
theorem Z7:li X (eh .Is) (λx y H Q=>y=.non/\Q (.bl (decide (x=.non))) H):=by
 intro cn s M H x y v u Q I rx ry h;obtain⟨rfl,q⟩:=h;cases ry;refine is_none_gen (HK I q ?_);cases x<;>first
  |(cases rx;rfl)
  |(obtain⟨t,rfl⟩:=rx;rfl)
theorem Yd:li X (eh .IsNot) (λx y H Q=>y=.non/\Q (.bl (!decide (x=.non))) H):=by
 intro cn s M H x y v u Q I rx ry h;obtain⟨rfl,q⟩:=h;cases ry;refine isnot_none_gen (HK I q ?_);cases x<;>first
  |(cases rx;rfl)
  |(obtain⟨t,rfl⟩:=rx;rfl)
theorem i8 (b:Expr)(h:op≠.In:=by decide)(h2:op≠.NotIn:=by decide):fU op b=Ã:=by
 have e1:(op==Bd.In)=Ã:=by cases op<;>first|rfl|exact absurd rfl h
 have e2:(op==Bd.NotIn)=Ã:=by cases op<;>first|rfl|exact absurd rfl h2
 cases b<;>simp[fU,e1,e2]
theorem Ye (ho:li X (eh op) r)(ha:PE X a ta)(hb:PE X b tb)(hm:fU op b=Ã):PE X (.Compare a [op] [b] pos) (G7 r ta tb):=by intro cn s M H Q I h;exact wpAny_Compare1 (C1 ha hb I h λv u s2 x y H2 I2 rx ry q=>ho cn s2 M H2 x y v u Q I2 rx ry q) hm
def F9 (t:TE):TT:=λM H Q=>t M H λx H'=>∃k,x=.bl k/\Q k H'
theorem Ox (ho:li X (eh op) r)(ha:PE X a ta)(hb:PE X b tb)(hm:fU op b=Ã):PT X (.Compare a [op] [b] pos) (F9 (G7 r ta tb)):=by intro cn s M H Q I h;refine wpAny_isTrue_Compare1 (fX (ha cn s M H _ I h) λv s1 ⟨x,H1,I1,r1,q1⟩=>fX (hb cn s1 M H1 _ I1 q1) λu s2 ⟨y,H2,I2,r2,q2⟩=>fX (ho cn s2 M H2 x y v u _ I2 r1 r2 q2) λc s3 hq=>?_) hm;obtain⟨z,H3,I3,r3,k,e,q3⟩:=hq;subst e;cases r3;exact i0 ⟨H3,I3,q3⟩
theorem pR:(sizeLine:Nat)<2 ^ 63:=by rw[fu];decide
theorem UU:li X (gI .Add) (λx y H Q=>∃i j,x=.str i/\y=.str j/\i.length+j.length<=sizeLine/\Q (.str (i++j)) H):=by intro cn s M H x y v u Q I rx ry h;obtain⟨i,j,rfl,rfl,hz,q⟩:=h;obtain⟨t,rfl⟩:=rx;obtain⟨t',rfl⟩:=ry;exact add_str (λt' tk=>⟨.str (i++j),H,I.tok _,⟨_,rfl⟩,q⟩) hz
theorem uE {x:V}(r:dU [x] us):∃u,us=[u]/\Í x u:=by
 cases r with
 |cons r1 r2=>cases r2;exact⟨_,rfl,r1⟩
theorem ú {x:V}(r:dU [x,y] us):∃u w',us=[u,w']/\Í x u/\Í y w':=by
 cases r with
 |cons r1 r2=>
  cases r2 with
  |cons r3 r4=>cases r4;exact⟨_,_,rfl,r1,r3⟩
theorem Kj (hc:X.calm=Â):iW X (.builtin "max") (λxs H Q=>∃i j,xs=[.int i,.int j]/\Q (.int (if j > i then j else i)) H):=by
 intro cn s M H xs us Q I r h;obtain⟨i,j,rfl,q⟩:=h;obtain⟨u,w',rfl,⟨t,rfl⟩,⟨t',rfl⟩⟩:=ú r;refine max_two_ints (I.ok.hd hc) λh' tk k=>⟨_,H,I.kept k,?_,q⟩;by_cases hj:j > i
 ·rw[if_pos hj,if_pos hj];exact⟨_,rfl⟩
 ·rw[if_neg hj,if_neg hj];exact⟨_,rfl⟩
theorem yb:iW X (.type "str") (λxs H Q=>∃i,xs=[.int i]/\i.natAbs.log2<1920/\Q (.str (toString i)) H):=by intro cn s M H xs us Q I r h;obtain⟨i,rfl,hz,q⟩:=h;obtain⟨u,rfl,t,rfl⟩:=uE r;exact PySem.P.str_of_int hz ⟨.str _,H,I.tok _,⟨_,rfl⟩,q⟩
end
structure wZ (h:cM)(x dx ϛ:cr)(mA:Str->Option cj):Prop where
 obj:h.get? x=U (gB ϛ dx)
 ns:h.Ns1 dx mA
 ne:dx≠x
variable {dx:cr}{mA:Str->Option cj}
theorem Vz (n:h.Ns1 dx mA):∃od,h.get? dx=U od/\∀name,ou name od=U (mA name):=by
 obtain⟨o,es,ep,ho,hd,hk,_,hm⟩:=n;refine⟨o,ho,λname=>?_⟩;have e:=hm name;unfold nsFind findBy at e;rw[←xP]at e;unfold ou;rw[hd];dsimp only;split
 ·rename_i y q;rw[q]at e;exact congrArg U e
 ·rename_i q;rw[q]at e;have a:es.toList.any (·.refKey)=Ã:=by rw[qJ];intro y hy;obtain⟨z,t,IU⟩:=hk y (Array.mem_toList_iff.mp hy);simp[DictEntry.refKey,IU]
  have a':¬es.toList.any (·.refKey)=Â:=by rw[a];exact cI
  rw[if_neg a'];exact congrArg U e
variable {ϛ:cr}
theorem wZ.look {x:cr}(I:wZ h x dx ϛ mA):∃od,PySem.W.InstAt h x (gB ϛ dx) ϛ (U od)/\∀name,ou name od=U (mA name) :=
 let⟨od,ho,hl⟩:=Vz I.ns
 ⟨od,⟨I.obj,rfl,rfl,ho⟩,hl⟩
variable {R:Result->cE->Prop}{f:cr}{kw:List (Str×cj)}{name:Str}{pl:Ci Bool}
section
variable {prog:eu}{w:dP}{A:dQ}{K:cm}{x:cr}{v:cj}
theorem Yf {expr:Bool}(X:K.In s.heap)(I:wZ s.heap x dx ϛ mA)(hg:mV K ϛ name=Â)(hh:pT K ϛ=Â)
  (ha:e8 K (.ref ϛ) name=U L) (hv:mA name=U v) (BK:xV v=Â) (h:Q v { s with toks:=s.toks+1 }) :
  cQ (c8 prog w) A (getAttr (.ref x) name expr) Q E s:=by
 obtain⟨od,ϗ,hl⟩:=I.look;exact PySem.W.get_value X ϗ (oT hg).1 (PySem.W.findObj_own hh ha rfl (by rw[hl,hv])) BK h
theorem Wv {Q:cj×List cj->cE->Prop}(X:K.In s.heap)(I:wZ s.heap x dx ϛ mA)(hg:mV K ϛ name=Â)
  (hf:e8 K (.ref ϛ) name=U (U (.ref f))) (ht:tZ K (.ref f)=Â) (hv:mA name=L) (h:Q (.ref f,[.ref x]) s) :
  cQ (c8 prog w) A (kI (.ref x) name pl) Q E s:=by
 obtain⟨od,ϗ,hl⟩:=I.look;exact PySem.W.method_fn X ϗ (oT hg).1 (oT hg).2 hf (beq_iff_eq.mp ht) (by show(ou name od).map (·.isSome)=U Ã;rw[hl,hv];rfl) h
theorem Yg {ns:List Str}{Q:Unit->cE->Prop}(X:K.In s.heap)(I:wZ s.heap x dx ϛ mA)
  (hs:e8 K (.ref ϛ) "__setattr__"=U (U (.builtin "object.__setattr__"))) (hp:wU K ϛ=Â) (ht:rA K ϛ name=U L) (hh:pT K ϛ=Â)
  (hw:PySem.Within mA ns) (hsz:ns.length<=sizeLine)
  (h:∀h',wZ h' x dx ϛ (λy=>if y=name then U v else mA y)->ip dx s.heap h'->Q () { s with heap:=h',toks:=s.toks+2 }) :
  cQ (c8 prog w) A (setAttr (.ref x) name v) Q E s:=by
 obtain⟨od,ϗ,hl⟩:=I.look;refine PySem.W.set_plain X ϗ hs (PySem.W.osa_open (s:={ s with toks:=s.toks+1 }) (r:=none) X ϗ hp ht λb=>?_);obtain⟨cd,hc,IH⟩:=PySem.W.any_some hh;have hx:s.heap.get? x=U ⟨.ref ϛ,U dx,.plain,#[]⟩:=I.obj;refine cq (cP (cq (cq (wpAny_loadPart hx (cq (PySem.W.Looks.here (s:={ s with toks:=s.toks+1 }) (PySem.W.looks_clsIn X hc) ?_))))));rw[IH];refine cP (a:=some dx) (cq (cP (cq ?_)));refine wpAny_nsSet1 (s:={ s with toks:=s.toks+1 }) I.ns λh' yZ tS=>?_;obtain⟨oD,esD,epD,RC,Rm,Rj⟩:=yZ.count (PySem.Within.cons name v hw);refine cq (wpAny_lookBehind RC (by rw[Rm];exact pastItsLine_dict (d8 Rj (by rw[cB];omega))) ?_);exact cP (h _ ⟨(tS.2 _ (Ne.symm I.ne)).trans I.obj,yZ,I.ne⟩ tS)
theorem Ww {vs:List cj}(X:K.In s.heap)(hm:rn K ϛ=Â)
  (hi:e8 K (.ref ϛ) "__init__"=U (U (.ref f))) (hf:Ad K (.ref f)=U (.type "function"))
  (h:pq (c8 prog w) (A.under (.builtin "type.__call__" ⟨.ref ϛ::vs,kw⟩)) (.call (.ref f) ⟨.ref (s.heap.objs.size+1)::vs,kw⟩) (PySem.W.InitBack (s.heap.objs.size+1) R)
   { s with heap:=(s.heap.push eZ).push (gB ϛ s.heap.objs.size) }) :
  pq (c8 prog w) A (.call (.ref ϛ) ⟨vs,kw⟩) R s:=by
 obtain⟨hh,g,d,t,os⟩:=s;exact PySem.W.make_core (PySem.W.makes_of X hm) (PySem.W.looks_findIn X hi) (λself=>PySem.W.bind_fn X self hf) (.inl rfl) h
end
noncomputable def mS (f:Str)(v:V):List (Str×V)->List (Str×V)
 |[]=>[(f,v)]
 |(g,x)::r=>if g=f then(g,v)::r else(g,x)::mS f v r
theorem MQ (f g:Str)(v:V):∀fs:List (Str×V),(mS f v fs).lookup g=if g=f then U v else fs.lookup g
 |[]=>by
  show lg g [(f,v)]=_;by_cases h:g=f
  ·have hb:(g==f)=Â:=beq_iff_eq.mpr h;simp only[lg,hb,if_pos h]
  ·have hb:(g==f)=Ã:=beq_eq_false_iff_ne.mpr h;simp only[lg,hb,if_neg h]
 |(k,x)::r=>by
  have ih:=MQ f g v r;rw[show mS f v ((k,x)::r)=(if k=f then(k,v)::r else(k,x)::mS f v r)from rfl];by_cases hk:k=f
  ·rw[if_pos hk];by_cases h:g=k
   ·have hb:(g==k)=Â:=beq_iff_eq.mpr h;simp only[lg,hb,if_pos (h.trans hk)]
   ·have hb:(g==k)=Ã:=beq_eq_false_iff_ne.mpr h;simp only[lg,hb,if_neg (λe:g=f=>h (e.trans hk.symm))]
  ·rw[if_neg hk];by_cases h:g=k
   ·have hb:(g==k)=Â:=beq_iff_eq.mpr h;simp only[lg,hb,if_neg (λe:g=f=>hk (h.symm.trans e))]
   ·have hb:(g==k)=Ã:=beq_eq_false_iff_ne.mpr h;simp only[lg,hb];exact ih
theorem Kk (f:Str)(v:V):∀fs:List (Str×V),f∈(mS f v fs).map (·.1)/\∀g,g∈fs.map (·.1)->g∈(mS f v fs).map (·.1)
 |[]=>⟨by simp[mS],λg h=>by simp at h⟩
 |(k,x)::r=>by
  obtain⟨i1,i2⟩:=Kk f v r;rw[show mS f v ((k,x)::r)=(if k=f then(k,v)::r else(k,x)::mS f v r)from rfl];by_cases hk:k=f
  ·rw[if_pos hk];subst hk;exact⟨by simp,λg h=>by simpa using h⟩
  ·rw[if_neg hk];refine⟨?_,λg h=>?_⟩
   ·rw[cL];exact ck _ i1
   ·rw[cL]at h ⊢;rcases cu.mp h with e|e
    ·exact cu.mpr (.inl e)
    ·exact ck _ (i2 g e)
theorem MR (f:Str)(v:V):∀fs:List (Str×V),(mS f v fs).length<=fs.length+1
 |[]=>by simp[mS]
 |(k,x)::r=>by
  have ih:=MR f v r;rw[show mS f v ((k,x)::r)=(if k=f then(k,v)::r else(k,x)::mS f v r)from rfl];by_cases hk:k=f
  ·rw[if_pos hk,cB,cB];omega
  ·rw[if_neg hk,cB,cB];omega
theorem o9.some_of {o:Option cj}(r:o9 (U v) o):∃u,o=U u/\Í v u:=by
 cases o with
 |none=>exact(show False from r).elim
 |some u=>exact⟨u,rfl,r⟩
theorem o9.none_of {o:Option cj}(r:o9 L o):o=L:=by
 cases o with
 |none=>rfl
 |some u=>exact(show False from r).elim
theorem VA (r:Í v u):xV u=Â:=by
 cases v with
 |non=>cases(show u=cj.none from r);rfl
 |bl b=>cases(show u=cj.bool b from r);rfl
 |int i=>obtain⟨t,e⟩:=(show∃t,u=cj.int i t from r);cases e;rfl
 |str x=>obtain⟨t,e⟩:=(show∃t,u=cj.str x t from r);cases e;rfl
 |byt b=>obtain⟨t,e⟩:=(show∃t,u=cj.bytes b t from r);cases e;rfl
 |flt b=>obtain⟨t,e⟩:=(show∃t,u=cj.float b t from r);cases e;rfl
 |ref a=>cases(show u=cj.ref a from r);rfl
 |ty n=>cases(show u=cj.type n from r);rfl
section
variable {w:dP}{fs DW:List (Str×V)}
theorem Hr (hok:pX P w H h)(e:H a=U (.ins ϛ dx fs)):∃mA,wZ h a dx ϛ mA/\(∀f,o9 (fs.lookup f) (mA f))/\PySem.Within mA (fs.map (·.1))/\fs.length<=1000/\H dx=U (.own a):=by obtain⟨d,z,ne,ob,mA,n,r,q⟩:=(show gO P w H h a (.ins ϛ dx fs)from hok a _ e);exact⟨mA,⟨ob,n,ne⟩,r,q,z,d⟩
end
structure oU (K:cm)(ϛ:cr):Prop where
 pg:mV K ϛ Str.empty=Â
 hd:pT K ϛ=Â
 po:wU K ϛ=Â
 sa:e8 K (.ref ϛ) "__setattr__"=U (U (.builtin "object.__setattr__"))
theorem oU.get {K:cm}(c:oU K ϛ)(f:Str):mV K ϛ f=Â:=c.pg
def fZ (K:cm)(ϛ:cr)(f:Str):Prop:=e8 K (.ref ϛ) f=U L
theorem fZ.taker {K:cm}{f:Str}(n:fZ K ϛ f):rA K ϛ f=U L:=by unfold rA;rw[show e8 K (.ref ϛ) f=U L from n];rfl
structure wY (K:cm)(ϛ:cr)(m:Str)(f:cr):Prop where
 at_:e8 K (.ref ϛ) m=U (U (.ref f))
 fn:tZ K (.ref f)=Â
 kp:fk K (.ref f)=Â
variable {m:Str}
section
variable {fs:List (Str×V)}{f:Str}{A:dQ}
theorem MU {b:Bool}(I:Ë X cn M H s)(e:H a=U (.ins ϛ dx fs))(c:oU X.K ϛ)(n:fZ X.K ϛ f)(l:fs.lookup f=U v)
  (h:∀u s',Ë X cn M H s'->Í v u->Q u s'):cQ (c8 X.prog X.w) A (getAttr (.ref a) f b) Q E s:=by
 obtain⟨mA,O,r,_,_,_⟩:=Hr I.hok e;obtain⟨u,hu,ru⟩:=o9.some_of (v:=v) (o:=mA f) (by rw[←l];exact r f);exact Yf I.kIn O (c.get f) c.hd n hu (VA ru) (h u _ (I.tok _) ru)
theorem jk {g:cr}{Q:cj×List cj->cE->Prop}(I:Ë X cn M H s)(e:H a=U (.ins ϛ dx fs))(c:oU X.K ϛ)(k:wY X.K ϛ m g)(l:fs.lookup m=L)
  (h:Q (.ref g,[.ref a]) s):cQ (c8 X.prog X.w) A (kI (.ref a) m pl) Q E s:=by
 obtain⟨mA,O,r,_,_,_⟩:=Hr I.hok e;have hn:mA m=L:=o9.none_of (by rw[←l];exact r m);exact Wv I.kIn O (c.get m) k.at_ k.fn hn h
theorem MV {Q:Unit->cE->Prop}(I:Ë X cn M H s)(e:H a=U (.ins ϛ dx fs))(c:oU X.K ϛ)(n:fZ X.K ϛ f)(hl:fs.length<1000)(ry:Í y u)
  (h:∀s',Ë X cn M (upd H a (.ins ϛ dx (mS f y fs))) s'->Q () s'):cQ (c8 X.prog X.w) A (setAttr (.ref a) f u) Q E s:=by
 obtain⟨mA,O,r,wi,_,ho⟩:=Hr I.hok e;have hz:(fs.map (·.1)).length<=sizeLine:=by rw[cA,fu];omega
 refine Yg I.kIn O c.sa c.po n.taker c.hd wi hz λh' O' sb=>h _ ?_;have hd:∃o,h'.get? dx=U o:=let⟨o,_,_,e',_⟩:=O'.ns;⟨o,e'⟩;refine I.write (x:=a) (e:=dx) (by rw[e];exact True.intro) (.inr ho) (λb q hb z=>(sb.2 b hb).trans z) hd ?_;refine⟨by rw[zm O.ne];exact ho,?_,O.ne,O'.obj,_,O'.ns,λg=>?_,λg hg=>?_⟩
 ·have:=MR f y fs;omega
 ·show o9 ((mS f y fs).lookup g) (if g=f then U u else mA g);rw[MQ];by_cases q:g=f
  ·rw[if_pos q,if_pos q];exact ry
  ·rw[if_neg q,if_neg q];exact r g
 ·by_cases q:g=f
  ·rw[q];exact(Kk f y fs).1
  ·refine(Kk f y fs).2 g (wi g λz=>hg ?_);show(if g=f then U u else mA g)=L;rw[if_neg q];exact z
theorem Ë.made (I:Ë X cn M H s):Ë X cn M (upd (upd H s.heap.objs.size (.own (s.heap.objs.size+1))) (s.heap.objs.size+1) (.ins ϛ s.heap.objs.size []))
  { s with heap:=(s.heap.push eZ).push (gB ϛ s.heap.objs.size) }:=by
 have e1:(s.heap.push eZ).get? s.heap.objs.size=U eZ:=dc s.heap rfl;have e2:((s.heap.push eZ).push (gB ϛ s.heap.objs.size)).get? (s.heap.objs.size+1)=U (gB ϛ s.heap.objs.size):=by have:=dc (s.heap.push eZ) (o:=gB ϛ s.heap.objs.size) rfl;rwa[gu]at this
 have e3:(s.heap.push eZ).Ns s.heap.objs.size (λ_=>L):=⟨eZ,#[],_,e1,rfl,(λe he=>absurd he (by simp)),λ_=>rfl⟩;have I1:=I.laid (a:=s.heap.objs.size) (o:=.own (s.heap.objs.size+1)) (h':=s.heap.push eZ) (t':=s.toks) (λb u q=>cw _ q) (cH _) ⟨_,e1⟩;refine I1.laid (a:=s.heap.objs.size+1) (o:=.ins ϛ s.heap.objs.size []) (t':=s.toks) (λb u q=>cw _ q) (qY (gu _ _)) ?_;have ne:s.heap.objs.size≠s.heap.objs.size+1:=dg (nP _);refine⟨by rw[zm ne,zo],gn _,ne,e2,λ_=>L,(cM.Ns1.of_empty e3).at λo q=>cw _ q,λ_=>True.intro,λy hy=>absurd rfl hy⟩
theorem Yh {prog:eu}{w:dP}{env:Env}{f:Str}(hb:xU e f env (eF e env)=eF e env)
  (h:cQ (c8 prog w) A (eF e env) (λo s₁=>cQ (c8 prog w) A (getAttr o f Â) Q E s₁) E s):cQ (c8 prog w) A (eF (.Attribute e f pos) env) Q E s :=
 Attribute_any_ h (by rw[arm_eval_Attribute,hb])
end
def JY (K:cm)(ta:TE)(f:Str):TE:=λM H Q=>ta M H λx H1=>∃a ϛ dx fs v,x=.ref a/\H1 a=U (.ins ϛ dx fs)/\oU K ϛ/\fZ K ϛ f/\fs.lookup f=U v/\Q v H1
def JR (K:cm)(ta tv:TE)(f:Str):TS:=λD M H=>tv M H λy H1=>ta M H1 λx H2=>∃a ϛ dx fs,x=.ref a/\H2 a=U (.ins ϛ dx fs)/\oU K ϛ/\fZ K ϛ f/\fs.length<1000 /\
 D.nx M (upd H2 a (.ins ϛ dx (mS f y fs)))
def EB (X:Cx)(op:qH)(rd:V->V->Hp->VK->Prop):Prop :=
 ∀(cn:List (cr×iZ)) (s:cE) (M:St) (H:Hp) (x y:V) (u v:cj) (Q:VK),Ë X cn M H s->Í x u->Í y v->rd x y H Q->cQ (c8 X.prog X.w) X.A (inplaceOp op u v) (EP X cn M Q) X.xe s
def BZ (K:cm)(ta tv:TE)(rd:V->V->Hp->VK->Prop)(f:Str):TS:=λD M H=>ta M H λx H1=>∃a ϛ dx fs v,x=.ref a/\H1 a=U (.ins ϛ dx fs)/\oU K ϛ/\fZ K ϛ f/\fs.lookup f=U v /\
 tv M H1 λy H2=>rd v y H2 λz H3=>∃EV DW,H3 a=U (.ins ϛ EV DW)/\DW.length<1000/\D.nx M (upd H3 a (.ins ϛ EV (mS f z DW)))
variable {fQ:oj}{value:Expr}
section
variable {f:Str}{tv:TE}
theorem Z8 (he:PE X e ta)(hb:Ae X e f):PE X (.Attribute e f pos) (JY X.K ta f):=by intro cn s M H Q I h;refine Yh hb (fX (he cn s M H _ I h) λu s1 gK=>?_);obtain⟨x,H1,I1,rx,a,ϛ,dx,fs,v,ex,ea,c,n,l,q⟩:=gK;subst ex;obtain rfl:u=cj.ref a:=rx;exact MU I1 ea c n l λu' s2 I2 ru=>⟨v,H1,I2,ru,q⟩
theorem Pv (ha:PE X o ta)(hv:PE X value tv)(hs:gQ value (U (.Attribute o f pos')) pos.line X.env=pure Ã):PS X (.Assign [.Attribute o f pos'] value pos) (JR X.K ta tv f):=by intro cn s M H D I h;refine plainObj_wpAny_Assign_Attribute (fX (hv cn s M H _ I h) λu s1 ⟨y,H1,I1,ry,q⟩=>fX (ha cn s1 M H1 _ I1 q) λov s2 hq=>?_) hs;obtain⟨x,H2,I2,rx,a,ϛ,dx,fs,ex,ea,c,n,l,q2⟩:=hq;subst ex;obtain rfl:ov=cj.ref a:=rx;exact MV I2 ea c n l ry λs3 I3=>⟨M,_,I3,q2⟩
theorem VB {op:qH}{rd:V->V->Hp->VK->Prop}(ha:PE X o ta)(hv:PE X value tv)(hop:EB X op rd):PS X (.AugAssign (.Attribute o f mq) op value pos) (BZ X.K ta tv rd f):=by intro cn s M H D I h;refine wpAny_AugAssign_AttributeAny (fX (ha cn s M H _ I h) λov s1 gK=>?_);obtain⟨x,H1,I1,rx,a,ϛ,dx,fs,v,ex,ea,c,n,l,q⟩:=gK;subst ex;obtain rfl:ov=cj.ref a:=rx;refine MU I1 ea c n l λu s2 I2 ru=>fX (hv cn s2 M H1 _ I2 q) λw3 s3 ⟨y,H2,I3,ry,q3⟩=>fX (hop cn s3 M H2 v y u w3 _ I3 ru ry q3) λw4 s4 gK=>?_;obtain⟨z,H3,I4,rz,EV,DW,Qv,l',q4⟩:=gK;exact MV I4 Qv c n l' rz λs5 I5=>⟨M,_,I5,q4⟩
def BW:V->V->Hp->VK->Prop:=λx y H Q=>∃i j,x=.int i/\y=.int j/\Q (.int (i+j)) H
theorem Z9:EB X .Add BW:=by rintro cn s M H x y u v Q I rx ry ⟨i,j,rfl,rfl,q⟩;obtain⟨t,rfl⟩:=(show∃t,u=cj.int i t from rx);obtain⟨t',rfl⟩:=(show∃t',v=cj.int j t' from ry);exact PyProof.Rows.iadd_int ⟨.int (i+j),H,I.tok _,⟨_,rfl⟩,q⟩
theorem Λ {args:List Expr}(he:PE X e te)(I:Ë X cn M H s)
  (h:te M H λx H1=>∃a ϛ dx fs g,x=.ref a/\H1 a=U (.ins ϛ dx fs)/\oU X.K ϛ/\wY X.K ϛ m g/\fs.lookup m=L /\
   ∀s1,Ë X cn M H1 s1->cQ (c8 X.prog X.w) X.A (md pos (.ref g) [.ref a] (jG pos (dD args X.env)) (ku pos (gA [] X.env))) Q X.xe s1)
  (ht:eF (.Call (.Attribute e m fQ) args [] pos) X.env=(do
   let ov ← eF e X.env
   kA fQ.atName
   let(f,first) ← f9 [ov] (kI ov m pl)
   md pos f first (jG pos (dD args X.env)) (ku pos (gA [] X.env)))) :
  cQ (c8 X.prog X.w) X.A (eF (.Call (.Attribute e m fQ) args [] pos) X.env) Q X.xe s:=by
 refine kB (pl:=pl) (fX (he cn s M H _ I h) λu s1 hq=>?_) ht;obtain⟨x,H1,I1,rx,a,ϛ,dx,fs,g,ex,ea,c,k,l,q⟩:=hq;subst ex;obtain rfl:u=cj.ref a:=rx;exact jk I1 ea c k l (q s1 I1)
end
section
variable {A:dQ}{c:cj}{b:Bool}
class inductive pM (K:cm)(H:Hp):V->cj->Prop where
 |non:pM K H .non (.type "NoneType")
 |bl (x:Bool):pM K H (.bl x) (.type "bool")
 |int (i:Int):pM K H (.int i) (.type "int")
 |str (x:Str):pM K H (.str x) (.type "str")
 |flt (x:UInt64):pM K H (.flt x) (.type "float")
 |lst {a:cr} {xs:List V} (e:H a=U (.lst xs)):pM K H (.ref a) (.type "list")
 |frz {a:cr} {o:iZ} {xs:List V} (e:H a=U (.frz o (.lst xs))):pM K H (.ref a) (.type "list")
 |tup {a:cr} {xs:List V} (e:H a=U (.tup xs)):pM K H (.ref a) (.type "tuple")
 |dK {a:cr} {eG:List (i6×V)} (e:H a=U (.dK eG)):pM K H (.ref a) (.type "dict")
 |dT {a:cr} {eG:List (List i6×V)} (e:H a=U (.dT eG)):pM K H (.ref a) (.type "dict")
 |ins {a ϛ dx:cr} {fs:List (Str×V)} (e:H a=U (.ins ϛ dx fs)) (cl:oU K ϛ) (ha:e8 K (.ref ϛ) "__class__"=U (U (.builtin "object.__class__")))
   (hn:jX K (.builtin "object.__class__") "__get__"=U (U (.builtin "getset_descriptor.__get__"))) (Mg:yS K (.builtin "object.__class__")=U Â)
   (hm:Am K ϛ (.type "object")=U Â):pM K H (.ref a) (.ref ϛ)
theorem Nl {x:V}{t:cj}(I:Ë X cn M H s)(rx:Í x u)(ty:pM X.K H x t)(e:gj X.K t c=U b)(h:∀tk,Q (.bool b) { s with toks:=tk }) :
  cQ (c8 X.prog X.w) A (call (.builtin "isinstance") [u,c]) Q E s:=by
 cases ty with
 |non=>cases(show u=cj.none from rx);exact eE PySem.W.kitx_none I.kIn True.intro e (λz=>nomatch z) h
 |bl y=>cases(show u=cj.bool y from rx);exact eE PySem.W.kitx_bool I.kIn True.intro e (λz=>nomatch z) h
 |int i=>obtain⟨t,q⟩:=(show∃t,u=cj.int i t from rx);cases q;exact eE PySem.W.kitx_int I.kIn True.intro e (λz=>nomatch z) h
 |str y=>obtain⟨t,q⟩:=(show∃t,u=cj.str y t from rx);cases q;exact eE PySem.W.kitx_str I.kIn True.intro e (λz=>nomatch z) h
 |flt y=>obtain⟨t,q⟩:=(show∃t,u=cj.float y t from rx);cases q;exact eE PySem.W.kitx_float I.kIn True.intro e (λz=>nomatch z) h
 |@lst a xs ea=>cases(show u=cj.ref a from rx);obtain⟨_,_,n,_,h1⟩:=(show gO X.prog X.w H s.heap a (.lst xs)from I.hok a _ ea);exact eE pU I.kIn ⟨_,h1,rfl⟩ e (λz=>nomatch z) h
 |@frz a ob xs ea=>cases(show u=cj.ref a from rx);obtain⟨_,_,_,n,_,h1⟩:=(show gO X.prog X.w H s.heap a (.frz ob (.lst xs))from I.hok a _ ea);exact eE pU I.kIn ⟨_,h1,rfl⟩ e (λz=>nomatch z) h
 |@tup a xs ea=>cases(show u=cj.ref a from rx);obtain⟨_,_,_,p⟩:=(show gO X.prog X.w H s.heap a (.tup xs)from I.hok a _ ea);obtain⟨o,h1,h2,_⟩:=p;exact eE PySem.W.kitx_tuple I.kIn ⟨o,h1,h2⟩ e (λz=>nomatch z) h
 |@dK a eG ea=>cases(show u=cj.ref a from rx);obtain⟨_,_,vs,_,p⟩:=(show gO X.prog X.w H s.heap a (.dK eG)from I.hok a _ ea);obtain⟨o,es,ep,h1,h2,_⟩:=p;exact eE wR I.kIn ⟨o,h1,h2.1⟩ e (λz=>nomatch z) h
 |@dT a eG ea=>cases(show u=cj.ref a from rx);obtain⟨_,_,xs,_,o,es,ep,h1,h2,_⟩:=(show gO X.prog X.w H s.heap a (.dT eG)from I.hok a _ ea);exact eE wR I.kIn ⟨o,h1,h2.1⟩ e (λz=>nomatch z) h
 |@ins a ϛ dx fs ea cl ha hn Mg hm=>cases(show u=cj.ref a from rx);obtain⟨mA,O,_⟩:=Hr I.hok ea;obtain⟨od,ϗ,_⟩:=O.look;exact eE (PySem.W.kitx_own (cl.get _) cl.hd ha hn Mg hm) I.kIn ϗ e (λz=>nomatch z) h
end
structure fH (k:Nat)(A:dQ):Prop where
 hd:A.handled=L
 dp:A.depth+3*k+5<recursionLimit
 un:A.units+16*k+200<oR
 gd:A.guards=U []
theorem fH.mono {k:Nat}{A:dQ}(r:fH k A)(h:j<=k):fH j A:=⟨r.hd,by have:=r.dp;omega,by have:=r.un;omega,r.gd⟩
theorem fH.deeper {k:Nat}{A:dQ}(r:fH (k+1) A)(env:Env):fH k (A.deeper env) :=
 ⟨r.hd,by have:=r.dp;show A.depth+1+3*k+5<_;omega,by have:=r.un;show A.units+3+16*k+200<_;omega,r.gd⟩
theorem UV {A:dQ}:(A.under (.builtin "type.__call__" ⟨.ref ϛ::us,kw⟩)).depth=A.depth+1:=by first|rfl|simp[dQ.under,wI.weight,wI.isCreation,wI.isGuard,wI.isCaller,wI.frames,wI.isFrame,guardIds]
theorem UW {A:dQ}:(A.under (.builtin "type.__call__" ⟨.ref ϛ::us,kw⟩)).units=A.units+1:=by first|rfl|simp[dQ.under,wI.cUnits,wI.frames,wI.isFrame]
theorem Uy {A:dQ}:(A.under (.builtin "type.__call__" ⟨.ref ϛ::us,kw⟩)).guards=A.guards:=by first|rfl|simp[dQ.under,wI.guards,wI.isGuard,guardIds,pushGuards]
theorem fH.make {k:Nat}{A:dQ}(r:fH (k+1) A)(ϛ:cr)(us:List cj)(kw:List (Str×cj)):fH k (A.under (.builtin "type.__call__" ⟨.ref ϛ::us,kw⟩)) :=
 ⟨r.hd,by have:=r.dp;rw[UV];omega,by have:=r.un;rw[UW];omega,by rw[Uy];exact r.gd⟩
theorem fH.depth {k:Nat}{A:dQ}(r:fH k A):A.depth<recursionLimit:=by have:=r.dp;omega
theorem fH.units {k:Nat}{A:dQ}(r:fH k A):A.units+64<oR:=by have:=r.un;omega
def DE:TA:=λ_ H Q=>Q [] H
def FZ (ta:TE)(tr:TA):TA:=λM H Q=>ta M H λx H1=>tr M H1 λxs H2=>Q (x::xs) H2
section
variable {t:TA}
theorem wz:PA X [] DE:=λ_ _ _ _ H Q I h=>Calls.spliced_nil ⟨[],H,I,.nil,h⟩
theorem yj (ha:PE X e te)(hr:PA X es t)(hs:SE X e es:=by rfl):PA X (e::es) (FZ te t):=by intro pos cn s M H Q I h;rw[hs];show cQ _ _ (spliced ((Ã,eF e X.env)::jG pos (dD es X.env))) _ _ s;refine Calls.spliced_cons (fX (ha cn s M H _ I h) λu s1 gK=>?_);obtain⟨x,H1,I1,r1,q1⟩:=gK;exact fX (hr pos cn s1 M H1 _ I1 q1) λus s2 ⟨xs,H2,I2,r2,q2⟩=>⟨x::xs,H2,I2,.cons r1 r2,q2⟩
def J8 (t:TA):TE:=λM H Q=>t M H λxs H1=>xs.length<=sizeLine/\∀p,H1 p=L->Q (.ref p) (upd H1 p (.tup xs))
def J3 (t:TA):TE:=λM H Q=>t M H λxs H1=>xs.length<=sizeLine/\∀p,H1 p=L->Q (.ref p) (upd H1 p (.lst xs))
theorem Lf {x1}(h:PA X es t):PE X (.Tuple es x1 pos) (J8 t):=by intro cn s M H Q I hq;refine wpAny_Tuple_spliced (fX (h pos cn s M H _ I hq) λus s1 ⟨xs,H1,I1,r,z,q⟩=>⟨by rw[←r.length];exact z,?_⟩);have hf:H1 s1.heap.objs.size=L:=I1.hok.fresh (cH _);refine⟨.ref s1.heap.objs.size,upd H1 s1.heap.objs.size (.tup xs),I1.laid (t':=s1.toks) (λb u e=>cw _ e) (cH _) ?_,rfl,q _ hf⟩;exact⟨z,us,r,⟨_,dc _ rfl,rfl,_,rfl⟩⟩
theorem Θ (h:PA X es t):PE X (.List es pos) (J3 t):=by intro cn s M H Q I hq;refine wpAny_List_spliced (fX (h pos cn s M H _ I hq) λus s1 ⟨xs,H1,I1,r,z,q⟩=>⟨by rw[←r.length];exact z,?_⟩);have hf:H1 s1.heap.objs.size=L:=I1.hok.fresh (cH _);refine⟨.ref s1.heap.objs.size,upd H1 s1.heap.objs.size (.lst xs),I1.laid (t':=s1.toks) (λb u e=>cw _ e) (cH _) ?_,rfl,q _ hf⟩;exact⟨z,us,0,r,dc _ rfl⟩
end
abbrev Sp:=List V->Hp->VK->XK->Prop
abbrev Bf:=List Env->Hp->cE->XK->cj->cE->Prop
structure wW (P:eu)(w:dP)(K:cm)(mg:Str->Option cj)(base:cM)(A:dQ)(outer:List Env)(s:cE)(H:Hp):Prop where
 frames:A.frames=U outer
 mod:Mod K mg base
 bs:∀b o,base.get? b=U o->s.heap.get? b=U o/\H b=L
 bsz:base.objs.size<=s.heap.objs.size
 funs:s.heap.FunFrames base outer
 frf:∀b∈Ay outer,H b=L
 hok:pX P w H s.heap
 bare:AllBare s.gens
def CE (outer:List Env)(P:eu)(w:dP)(H:Hp)(s:cE)(Q:VK)(u:cj)(s':cE):Prop :=
 ∃v H',s'.os=s.os/\AllBare s'.gens/\Un (Ay outer) [] H H' s.heap s'.heap/\pX P w H' s'.heap/\Í v u/\Q v H'
def CR (CX:Bf)(outer:List Env)(P:eu)(w:dP)(H:Hp)(s:cE)(Q:VK)(E:XK)(r:Result)(s':cE):Prop :=
 match r with
 |.ok (.ret u)=>CE outer P w H s Q u s'
 |.ok _=>False
 |.error e=>CX outer H s E e s'
structure dL (P:eu)(w:dP)(K:cm)(mg:Str->Option cj)(base:cM)(CX:Bf)(k:Nat)(f:cr)(fd:cz)(ps:List Str)(sp:Sp):Prop where
 len:∀vs H Q E,sp vs H Q E->vs.length=ps.length
 run:∀(A:dQ) (outer:List Env) (s:cE) (H:Hp) (args:Args) (us:List cj) (vs:List V) (Q:VK) (E:XK),fH k A->wW P w K mg base A outer s H->tw s fd args (ps.zip us)->dU vs us->sp vs H Q E ->
  pq (c8 P w) A (.call (.ref f) args) (CR CX outer P w H s Q E) s
theorem wW.make {w:dP}{K:cm}{mg:Str->Option cj}{base:cM}{A:dQ}{outer:List Env}(e:wW P w K mg base A outer s H)(ϛ:cr)(us:List cj)(kw:List (Str×cj)) :
  wW P w K mg base (A.under (.builtin "type.__call__" ⟨.ref ϛ::us,kw⟩)) outer s H:=⟨by first|exact e.frames|(simpa[dQ.under,wI.envs,wI.isFrame,pushEnvs]using e.frames),e.mod,e.bs,e.bsz,e.funs,e.frf,e.hok,e.bare⟩
theorem Ë.env0 (I:Ë X cn M H s):wW X.prog X.w X.K X.mg X.base X.A X.stack s H :=
 ⟨I.ok.frames,I.ok.mod,I.bs,d8 I.ok.bsz I.sz,I.stack,I.stkFree,I.hok,I.bare⟩
theorem Ë.after {Q:VK}(I:Ë X cn M H s)(h:CE X.stack X.prog X.w H s Q u s'):EP X cn M Q u s':=by obtain⟨v,H',os,bare,un,hok,r,q⟩:=h;obtain⟨hh,g,d,t,Sa⟩:=s';obtain rfl:Sa=s.os:=os;exact⟨v,H',I.call (h':=hh) (g':=g) (d':=d) (t':=t) (ch:=[]) un hok bare (λb z=>absurd z (by simp)),r,q⟩
def CL (sp:Sp)(mQ:List V)(E:XK)(t:TA):TE:=λM H Q=>t M H λvs H1=>sp (vs++mQ) H1 Q E
def CO (ϛ:cr)(m:Str)(sp:Sp)(mQ:List V)(E:XK)(ta:TE)(t:TA):TE:=λM H Q=>ta M H λx H1=>∃a dx fs,x=.ref a/\H1 a=U (.ins ϛ dx fs)/\fs.lookup m=L /\
 t M H1 λvs H2=>sp (x::(vs++mQ)) H2 Q E
def CN (ϛ:cr)(sp:Sp)(mQ:List V)(E:XK)(t:TA):TE:=λM H Q=>t M H λvs H1=>∀x dx,H1 x=L->H1 dx=L->dx≠x ->
 sp (.ref x::(vs++mQ)) (upd (upd H1 dx (.own x)) x (.ins ϛ dx [])) (λv H2=>v=.non/\Q (.ref x) H2) E
def gz (K:cm)(fd:cz)(ps:List Str)(S:List cj):Prop :=
 ∀(s:cE) (us:List cj),K.In s.heap->(us++S).length=ps.length->tw s fd ⟨us,[]⟩ (ps.zip (us++S))
variable {fd:cz}{ps:List Str}
theorem gz.all {K:cm}(h:∀us:List cj,us.length=ps.length->bindArgs fd ⟨us,[]⟩=pure (ps.zip us)):gz K fd ps []:=λs us _ hl=>by rw[dA]at hl ⊢;exact .of_eq (h us hl)
def mL (CX:Bf)(X:Cx)(E:XK):Prop:=∀(cn:List (cr×iZ)) (M:St) (H:Hp) (s:cE) (e:cj) (s':cE),Ë X cn M H s->CX X.stack H s E e s'->X.xe e s'
variable {CX:Bf}{S:List cj}{mQ:List V}{sp:Sp}
section
variable {k:Nat}{E:XK}{t:TA}
theorem Gi {Q:VK}{vs:List V}(F:dL X.prog X.w X.K X.mg X.base CX k f fd ps sp)(hr:fH k X.A)(hb:gz X.K fd ps S)(hd:dU mQ S)(hx:mL CX X E)
  (I:Ë X cn M H s) (r:dU vs us) (h:sp (vs++mQ) H Q E):cQ (c8 X.prog X.w) X.A (call (.ref f) us) (EP X cn M Q) X.xe s:=by
 have r2:dU (vs++mQ) (us++S):=r.append hd;have hl:(us++S).length=ps.length:=by rw[←r2.length];exact F.len _ _ _ _ h
 refine wpAny_call (tE (F.run X.A X.stack s H ⟨us,[]⟩ (us++S) (vs++mQ) Q E hr I.env0 (hb s us I.kIn hl) r2 h) λr s' hq=>?_);cases r with
 |error e=>exact hx cn M H s e s' I hq
 |ok fl=>
  cases fl with
  |ret u=>exact I.after hq
  |next=>exact False.elim hq
  |brk=>exact False.elim hq
  |cont=>exact False.elim hq
theorem Hs (F:dL X.prog X.w X.K X.mg X.base CX k f fd ps sp)(hr:fH k X.A)(hg:Gl X x)(hm:X.mg x=U (.ref f))(hk:fk X.K (.ref f)=Â)(hb:gz X.K fd ps S)(hd:dU mQ S)(hx:mL CX X E)
  (ha:PA X (e::es) t) (nH:kC x:=by decide) (he:SE X e es:=by rfl) (kL:pL X pos es:=by rfl) :
  PE X (.Call (.Name x p) (e::es) [] pos) (CL sp mQ E t):=by
 intro cn s M H Q I h;refine kF (vc I hg hm ?_ nH);refine jH (h₀:=X.base) I.ok.mod.kin hk (fX (ha pos cn s M H _ I h) λus s1 ⟨vs,H1,I1,r,q⟩=>⟨I1.kIn,?_⟩) he kL;exact Gi F hr hb hd hx I1 r q
theorem Oy (he:PE X o ta)(c:oU X.K ϛ)(hm:wY X.K ϛ m f)(F:dL X.prog X.w X.K X.mg X.base CX k f fd ps sp)(hr:fH k X.A)(hb:gz X.K fd ps S)(hd:dU mQ S)(hx:mL CX X E)(ha:PA X (e::es) t)
  (m6:SE X e es:=by rfl) (kL:pL X pos es:=by rfl)
  (ht:eF (.Call (.Attribute o m fQ) (e::es) [] pos) X.env=(do
   let ov ← eF o X.env
   kA fQ.atName
   let(f,first) ← f9 [ov] (kI ov m pl)
   md pos f first (jG pos (dD (e::es) X.env)) (ku pos (gA [] X.env))):=by rfl) :
  PE X (.Call (.Attribute o m fQ) (e::es) [] pos) (CO ϛ m sp mQ E ta t):=by
 intro cn s M H Q I h;refine kB (pl:=pl) (fX (he cn s M H _ I h) λu s1 hq=>?_) ht;obtain⟨x,H1,I1,rx,a,dx,fs,ex,ea,l,q⟩:=hq;subst ex;obtain rfl:u=cj.ref a:=rx;refine jk I1 ea c hm l ?_;refine jH (first:=[.ref a]) (h₀:=X.base) I.ok.mod.kin hm.kp (fX (ha pos cn s1 M H1 _ I1 q) λus s2 ⟨vs,H2,I2,r,q2⟩=>⟨I2.kIn,?_⟩) m6 kL;exact Gi (us:=.ref a::us) (vs:=.ref a::vs) F hr hb hd hx I2 (.cons rfl r) q2
theorem V7 (he:PE X o ta)(c:oU X.K ϛ)(hm:wY X.K ϛ m f)(F:dL X.prog X.w X.K X.mg X.base CX k f fd ps sp)(hr:fH k X.A)(hb:gz X.K fd ps S)(hd:dU mQ S)(hx:mL CX X E)
  (ht:eF (.Call (.Attribute o m fQ) [] [] pos) X.env=(do
   let ov ← eF o X.env
   kA fQ.atName
   let(f,first) ← f9 [ov] (kI ov m pl)
   md pos f first (jG pos (dD [] X.env)) (ku pos (gA [] X.env))):=by rfl) :
  PE X (.Call (.Attribute o m fQ) [] [] pos) (CO ϛ m sp mQ E ta DE):=by
 intro cn s M H Q I h;refine kB (pl:=pl) (fX (he cn s M H _ I h) λu s1 hq=>?_) ht;obtain⟨x,H1,I1,rx,a,dx,fs,ex,ea,l,q⟩:=hq;subst ex;obtain rfl:u=cj.ref a:=rx;refine jk I1 ea c hm l ?_;exact vJ (first:=[.ref a]) I1.kIn hm.kp (Gi (us:=[.ref a]) (vs:=[.ref a]) F hr hb hd hx I1 (.cons rfl .nil) q)
structure Mk (K:cm)(ϛ f:cr):Prop where
 makes:rn K ϛ=Â
 init:e8 K (.ref ϛ) "__init__"=U (U (.ref f))
 fn:tZ K (.ref f)=Â
 kp:fk K (.ref ϛ)=Â
theorem NR {Q:VK}{vs:List V}(ϖ:Mk X.K ϛ f)(F:dL X.prog X.w X.K X.mg X.base CX k f fd ps sp)(hr:fH (k+1) X.A)(hb:gz X.K fd ps S)(hd:dU mQ S)
  (hx:mL CX X E) (I:Ë X cn M H s) (r:dU vs us)
  (h:∀x dx,H x=L->H dx=L->dx≠x->sp (.ref x::(vs++mQ)) (upd (upd H dx (.own x)) x (.ins ϛ dx [])) (λv H2=>v=.non/\Q (.ref x) H2) E) :
  cQ (c8 X.prog X.w) X.A (call (.ref ϛ) us) (EP X cn M Q) X.xe s:=by
 have hq:=h (s.heap.objs.size+1) s.heap.objs.size (I.hok.fresh (xR _)) (I.hok.fresh (cH _)) (dg (nP _));have I2:=Ë.made (ϛ:=ϛ) I;have r2:dU (V.ref (s.heap.objs.size+1)::(vs++mQ)) (cj.ref (s.heap.objs.size+1)::(us++S)):=.cons rfl (r.append hd);have hl:(cj.ref (s.heap.objs.size+1)::us++S).length=ps.length:=by have e:=r2.length;rw[F.len _ _ _ _ hq]at e;exact e.symm
 refine wpAny_call (Ww (f:=f) I.kIn ϖ.makes ϖ.init (beq_iff_eq.mp ϖ.fn) (tE (F.run _ X.stack _ _ ⟨cj.ref (s.heap.objs.size+1)::us,[]⟩ (cj.ref (s.heap.objs.size+1)::(us++S)) _ _ E (hr.make ϛ us [])
  (I2.env0.make ϛ us []) (hb _ (cj.ref (s.heap.objs.size+1)::us) I2.kIn hl) r2 hq) λr s' uO=>?_))
 cases r with
 |error e=>exact hx cn M _ _ e s' I2 uO
 |ok fl=>
  cases fl with
  |ret u=>obtain⟨v,H',I3,rv,ev,q3⟩:=I2.after uO;subst ev;exact⟨rv,⟨V.ref (s.heap.objs.size+1),H',I3,rfl,q3⟩⟩
  |next=>exact False.elim uO
  |brk=>exact False.elim uO
  |cont=>exact False.elim uO
theorem Yi (ϖ:Mk X.K ϛ f)(F:dL X.prog X.w X.K X.mg X.base CX k f fd ps sp)(hr:fH (k+1) X.A)(hg:Gl X x)(hm:X.mg x=U (.ref ϛ))(hb:gz X.K fd ps S)(hd:dU mQ S)(hx:mL CX X E)
  (ha:PA X (e::es) t) (nH:kC x:=by decide) (he:SE X e es:=by rfl) (kL:pL X pos es:=by rfl) :
  PE X (.Call (.Name x p) (e::es) [] pos) (CN ϛ sp mQ E t):=by
 intro cn s M H Q I h;refine kF (vc I hg hm ?_ nH);refine jH (h₀:=X.base) I.ok.mod.kin ϖ.kp (fX (ha pos cn s M H _ I h) λus s1 ⟨vs,H1,I1,r,q⟩=>⟨I1.kIn,?_⟩) he kL;exact NR ϖ F hr hb hd hx I1 r q
theorem V8 (ϖ:Mk X.K ϛ f)(F:dL X.prog X.w X.K X.mg X.base CX k f fd ps sp)(hr:fH (k+1) X.A)(hg:Gl X x)(hm:X.mg x=U (.ref ϛ))(hb:gz X.K fd ps S)(hd:dU mQ S)(hx:mL CX X E)
  (nH:kC x:=by decide):PE X (.Call (.Name x p) [] [] pos) (CN ϛ sp mQ E DE):=by
 intro cn s M H Q I h;refine kF (vc I hg hm ?_ nH);exact vJ I.kIn ϖ.kp (NR (us:=[]) ϖ F hr hb hd hx I .nil h)
end
structure gp (N P:List Str)(sc:qI):Prop where
 kind:sc.kind=.function
 co:sc.isCoroutine=Ã
 gen:sc.isGenerator=Ã
 nd:N.Nodup
 pre:N.take P.length=P
 par:∀x∈P,sc.names.lookup x=U .local\/sc.names.lookup x=U .cell
 nofree:∀y∈sc.names,y.2≠.free
variable {kindOf:Str->Option dq}
theorem Nm {kindOf:Str->Option dq}{x:Str}:∀{binds:List (Str×cj)} {m:Str->Option cj},(∀v,(x,v)∉binds)->yQ kindOf binds m x=m x
 |[],_,_=>rfl
 |(n,v)::r,m,h=>by
  unfold yQ;rw[Nm λw hw=>h w (ck _ hw)];split
  ·have:x≠n:=by rintro rfl;exact h v cg
   simp[this]
  ·rfl
theorem Ī {kindOf:Str->Option dq}{x:Str}:∀{binds:List (Str×cj)} {m:Str->Option cj},(∀v,(x,v)∉binds)->yP kindOf binds m x=m x
 |[],_,_=>rfl
 |(n,v)::r,m,h=>by
  unfold yP;rw[Ī λw hw=>h w (ck _ hw)];split
  ·rfl
  ·have:x≠n:=by rintro rfl;exact h v cg
   simp[this]
theorem Nn {kindOf:Str->Option dq}{x:Str}{v:cj}:∀{P:List Str} {vs:List cj} {i:Nat} {m:Str->Option cj},P.Nodup->P[i]?=U x->vs[i]?=U v->kindOf x=U .local ->
  yQ kindOf (P.zip vs) m x=U v
 |[],_,_,_,_,h,_,_=>by simp at h
 |_::_,[],_,_,_,_,h,_=>by simp at h
 |p::P,w::vs,0,m,nd,h1,h2,hk=>by simp at h1 h2;subst h1;subst h2;show yQ kindOf ((p,w)::P.zip vs) m p=_;unfold yQ;rw[Nm λv hv=>(dG.mp nd).1 (oh hv).1,if_pos hk];simp
 |p::P,w::vs,i+1,m,nd,h1,h2,hk=>by show yQ kindOf ((p,w)::P.zip vs) m x=_;unfold yQ;exact Nn (i:=i) (dG.mp nd).2 (by simpa using h1) (by simpa using h2) hk
theorem Np {kindOf:Str->Option dq}{x:Str}{v:cj}:∀{P:List Str} {vs:List cj} {i:Nat} {m:Str->Option cj},P.Nodup->P[i]?=U x->vs[i]?=U v->kindOf x≠U .local ->
  yP kindOf (P.zip vs) m x=U v
 |[],_,_,_,_,h,_,_=>by simp at h
 |_::_,[],_,_,_,_,h,_=>by simp at h
 |p::P,w::vs,0,m,nd,h1,h2,hk=>by simp at h1 h2;subst h1;subst h2;show yP kindOf ((p,w)::P.zip vs) m p=_;unfold yP;rw[Ī λv hv=>(dG.mp nd).1 (oh hv).1,if_neg hk];simp
 |p::P,w::vs,i+1,m,nd,h1,h2,hk=>by show yP kindOf ((p,w)::P.zip vs) m x=_;unfold yP;exact Np (i:=i) (dG.mp nd).2 (by simpa using h1) (by simpa using h2) hk
noncomputable def start (N:List Str)(vs:List V):St:=vs.map U++cy (N.length-vs.length) L
noncomputable def rX (CX:Bf)(P:eu)(w:dP)(K:cm)(mg:Str->Option cj)(base:cM)(N:List Str)(qual:Str)(scope:qI)(f:cr)(cd:cj)(A:dQ)(outer:List Env)(s:cE)(H:Hp)(E:XK):Cx where
 prog:=P
 w:=w
 K:=K
 mg:=mg
 base:=base
 A:=A.deeper (envOfC qual scope s.heap.objs.size f cd)
 N:=N
 s₀:=s
 H₀:=H
 env:=envOfC qual scope s.heap.objs.size f cd
 outer:=outer
 stack:=envOfC qual scope s.heap.objs.size f cd::outer
 ex:=[]
 calm:=true
 fn:=λ_=>Â
 pn:=[]
 xe:=λe s'=>cQ (c8 P w) (A.deeper (envOfC qual scope s.heap.objs.size f cd)) (leaving (envOfC qual scope s.heap.objs.size f cd) e) (λ_ s''=>CX outer H s E e s'') (λe' s''=>CX outer H s E e' s'') s'
theorem NT {sc:qI}(h:sc.names.lookup x=U .cell):∃c,(cellsFrom n sc.names []).lookup x=U c:=by have q:=nq sc.names n [] (.inl h);exact tP.mp q
variable {qual:Str}{scope:qI}
theorem VC {w:dP}{K:cm}{mg:Str->Option cj}{base:cM}{N:List Str}{cd:cj}{A:dQ}{outer:List Env}{s1:cE}{E:XK}{vs:List V}
  (ϙ:gp N ps scope) (hd:A.handled=L) (e0:wW P w K mg base A outer s H) (hl:vs.length=ps.length) (r:dU vs us)
  (x:InCallC s s.heap.objs.size (yQ (envOfC qual scope s.heap.objs.size f cd).kindOf (ps.zip us) λ_=>L) (cellsFrom (s.heap.objs.size+1) scope.names []) (yP (envOfC qual scope s.heap.objs.size f cd).kindOf (ps.zip us) λ_=>L) s1) :
  Ë (rX CX P w K mg base N qual scope f cd A outer s H E) [] (start N vs) H s1:=by
 have kL:ps.length<=N.length:=by have:=congrArg mU ϙ.pre;rw[fK]at this;omega
 obtain⟨h1,tk,rfl,hk⟩:=x.done;have FD:∀b:cr,b∉(rX CX P w K mg base N qual scope f cd A outer s H E).ex:=λb z=>absurd (show b∈([]:List cr)from z) (by simp);refine⟨⟨e0.mod,ϙ.kind,rfl,rfl,cH _,λy z c h1 h2=>?_,λy hy=>?_,λy c _ h=>?_,λ_=>hd,dQ.frames_deeper e0.frames,.inr ⟨rfl,rfl⟩,λb z=>absurd z (FD b),e0.bs,e0.bsz,λb _ _=>FD b,λb z=>absurd z (FD b),e0.funs,e0.frf⟩,
  rfl,e0.bare,Un.kept hk,⟨_,x.toInCall.ns,λi y v h1 h2 h3=>?_⟩,λy c h=>⟨_,x.cell y c h⟩,e0.hok.fresh (cH _),λy c h=>?_,λp hp=>absurd (show p∈([]:List (cr×iZ))from hp) (by simp),e0.hok.kept hk,?_⟩
 ·exact name_of_addr x.apart (PySem.mem_of_lookup h1) (PySem.mem_of_lookup h2)
 ·have hy:scope.names.lookup y=U .cell\/scope.names.lookup y=U .free:=hy;rcases hy with hy|hy
  ·exact NT hy
  ·exact absurd rfl (ϙ.nofree _ (PySem.mem_of_lookup hy))
 ·exact oi (x.above y c (PySem.mem_of_lookup h))
 ·have hi:i<vs.length:=by
   unfold start at h2;by_cases hi:i<vs.length
   ·exact hi
   ·rw[iM (by simpa using hi)]at h2;rw[nz]at h2
    split at h2<;>cases h2
  have ha:vs[i]?=U v:=by
   unfold start at h2;rw[fE (by simpa using hi),dm]at h2;cases e:vs[i]? with
   |none=>rw[e]at h2;cases h2
   |some a=>rw[e]at h2;cases h2;rfl
  obtain⟨u,hu,rv⟩:=r.get ha;have hp:ps[i]?=U y:=by rw[←ϙ.pre,List.getElem?_take_of_lt (by omega)];exact h1
  have Mn:ps.Nodup:=by rw[←ϙ.pre];exact ϙ.nd.sublist (List.take_sublist _ _)
  refine⟨u,rv,?_⟩;rcases ϙ.par y (gJ hp)with k|k
  ·exact .inl ⟨k,Nn Mn hp hu k⟩
  ·obtain⟨c,e⟩:=NT (n:=s.heap.objs.size+1) k;refine .inr ⟨.inl k,c,e,?_⟩;have q:=x.cell y c e;rw[Np Mn hp hu (by show scope.names.lookup y≠_;rw[k];decide)]at q;exact q
 ·exact e0.hok.fresh (oi (x.above y c (PySem.mem_of_lookup h)))
 ·unfold start;show _=N.length;rw[cV,cA,eS];omega
theorem ĸ {w:dP}{K:cm}{mg:Str->Option cj}{base:cM}{k:Nat}{params:Arguments}{dV kV doc pm jP G oc:cj}{an od:Option cr}
    {BV:Array (Option cj)} {N:List Str} (lk:K.lookup f=U ⟨oc,od,.func (nr name qual params body scope dV kV doc pm an jP G),BV⟩) (kW:sk K jP qual=Â) (ϙ:gp N ps scope)
    (len:∀vs H Q E,sp vs H Q E->vs.length=ps.length)
    (Az:∀(A:dQ) (outer:List Env) (s:cE) (H:Hp) (vs:List V) (Q:VK) (E:XK),fH k (A.deeper (envOfC qual scope s.heap.objs.size f jP))->sp vs H Q E ->
      ∃t,xA (rX CX P w K mg base N qual scope f jP A outer s H E) body t/\t { nx:=λ_ H'=>Q .non H',rt:=Q } (start N vs) H) :
    dL P w K mg base CX (k+1) f (nr name qual params body scope dV kV doc pm an jP G) ps sp:=by
  refine⟨len,λA outer s H args us vs Q E hr e0 hb r CB=>?_⟩;have hl:=len _ _ _ _ CB;have KX:K.In s.heap:=e0.mod.kin.keeps λb o e=>(e0.bs b o e).1;have lim:s.heap.NoLimit:=e0.mod.nolimit.keeps λb o e=>(e0.bs b o e).1;have E9:∀y∈ps.zip us,scope.names.lookup y.1=U .local\/(scope.names.lookup y.1=U .cell/\((cellsFrom (s.heap.objs.size+1) scope.names []).lookup y.1).isSome=Â):=λ⟨n,v⟩ hy=>by
    rcases ϙ.par n (oh hy).1 with q|q
    · exact .inl q
    · exact .inr ⟨q,nq _ _ _ (.inl q)⟩
  refine codeAny_call_function hr.depth (KX _ _ lk) rfl ϙ.co ϙ.gen rfl (PySem.W.codeRec_of KX kW) (hb _ _ _ _ ?_);refine wpAny_newFunctionEnv_cells ϙ.kind E9 λenv he s1 x=>?_;subst he;refine⟨lim.keeps x.toInCall.keep,codeAny_func ?_⟩;obtain⟨t,ht,hq⟩:=Az A outer s H vs Q E (hr.deeper _) CB;have I:Ë (rX CX P w K mg base N qual scope f jP A outer s H E) [] (start N vs) H s1:=VC ϙ hr.hd e0 hl r x;refine gh (ht [] s1 (start N vs) H _ I hq) (λfl s' hs=>?_) λe s' hs=>hs;have fin:∀{σ':St} {H':Hp} {v:V} {u:cj},Ë (rX CX P w K mg base N qual scope f jP A outer s H E) [] σ' H' s'->Í v u->Q v H'->CE outer P w H s Q u s' :=
    λ{σ' H' v u} ϗ rv q=>⟨v,H',ϗ.os,ϗ.bare,ϗ.base,ϗ.hok,rv,q⟩
  cases fl with
  |ret u=>obtain⟨v,σ',H',ϗ,rv,q⟩:=hs;exact fin ϗ rv q
  |next=>obtain⟨σ',H',ϗ,q⟩:=hs;exact fin (v:=V.non) (u:=cj.none) ϗ rfl q
  |brk=>obtain⟨_,_,_,q⟩:=hs;exact False.elim q
  |cont=>obtain⟨_,_,_,q⟩:=hs;exact False.elim q
variable {T:String}
section
variable {t:TA}{id:String}{r:List V->Hp->VK->Prop}
def MC (r:List V->Hp->VK->Prop)(t:TA):TE:=λM H Q=>t M H λvs H1=>r vs H1 Q
theorem Kq (hc:iW X (.builtin id) r)(hg:Gl X x)(hm:X.mg x=L)(hv:d9 x=U (.builtin id))(ha:PA X (e::es) t)(hn:x≠"__name__":=by decide)(nH:kC x:=by decide)
  (he:SE X e es:=by rfl) (kL:pL X pos es:=by rfl):PE X (.Call (.Name x p) (e::es) [] pos) (MC r t):=by
 intro cn s M H Q I h;refine kF (j9 I hg hm hv ?_ hn nH);exact PyProof.Rows.callWith_builtin1 (fX (ha pos cn s M H _ I h) λus s1 ⟨vs,H1,I1,r1,q1⟩=>hc cn s1 M H1 vs us Q I1 r1 q1) he kL
theorem Nq (hc:iW X (.type T) r)(hg:Gl X x)(hm:X.mg x=L)(hv:d9 x=U (.type T))(ha:PA X (e::es) t)(hn:x≠"__name__":=by decide)(nH:kC x:=by decide)
  (he:SE X e es:=by rfl) (kL:pL X pos es:=by rfl):PE X (.Call (.Name x p) (e::es) [] pos) (MC r t):=by
 intro cn s M H Q I h;refine kF (j9 I hg hm hv ?_ hn nH);exact eT (fX (ha pos cn s M H _ I h) λus s1 ⟨vs,H1,I1,r1,q1⟩=>hc cn s1 M H1 vs us Q I1 r1 q1) he kL
end
end L2
namespace HT
open PySem PyProof.Rows
open PySem.SeqAt
open PySem.AutoSeq1 (wpAny_loadPart')
open PySem.MeetsSeq PySem.MeetsSeq2 PySem.MeetsSeq3
section
variable {prog:eu}{w:dP}{A:dQ}{E:cj->cE->Prop}{s:cE}
theorem cat_tup {t b:cr}{vs ws:List cj}{Q:cj->cE->Prop}(ht:IsTup s.heap t vs.toArray)(hb:IsTup s.heap b ws.toArray)(hv:vs≠[])
    (h1:ws=[]->Q (.ref t) s) (h2:ws≠[]->Q (.ref s.heap.objs.size) { s with heap:=s.heap.push { cls:=.type "tuple",data:=.seq (vs++ws).toArray } })
    (hsz:vs.length+ws.length<=sizeLine):cQ (c8 prog w) A (gI .Add (.ref t) (.ref b)) Q E s:=by
  obtain⟨⟨cls,dd,data,sl⟩,ho,hc,n,hd⟩:=id ht;obtain⟨⟨Ip,GI,data2,Bv⟩,GW,C7,n2,hd2⟩:=id hb;simp only at hc hd C7 hd2;subst hc hd C7 hd2;have e:vs.toArray++ws.toArray=(vs++ws).toArray:=by simp
  by_cases hw:ws=[]
  · exact Aa ⟨_,ho,rfl⟩ ⟨_,GW,rfl⟩ noFill_tuple_add seq_tuple_add PySem.F.slot_tuple_add PySem.F.entry_tuple_add (PySem.F.args_tuple_add_2 _ _)
      (tuple_addW1 t b vs.toArray ws.toArray n n2 dd GI sl Bv (by simpa using hv) (by simp[hw])) ⟨ho,GW,h1 hw⟩
  · refine Aa ⟨_,ho,rfl⟩ ⟨_,GW,rfl⟩ noFill_tuple_add seq_tuple_add PySem.F.slot_tuple_add PySem.F.entry_tuple_add (PySem.F.args_tuple_add_2 _ _)
      (tuple_addW2 t b vs.toArray ws.toArray n n2 dd GI sl Bv (by simpa using hv) (by simpa using hw) (by rw[cU,cU];exact hsz)) ⟨ho,GW,?_⟩
    rw[e];exact h2 hw
noncomputable def sIx (n d:Nat):Option Int->Nat
 |none=>d
 |some v=>if v<0 then(v+(n:Int)).toNat else min v.toNat n
theorem sIx_none (n d:Nat):sIx n d L=d:=rfl
theorem sIx_nat (n d k:Nat):sIx n d (U (k:Int))=min k n:=by show(if(k:Int)<0 then((k:Int)+(n:Int)).toNat else min (k:Int).toNat n)=min k n;rw[if_neg (by omega),fC]
theorem Η (n d:Nat)(hd:d<=n)(o:Option Int):sIx n d o<=n:=by
 cases o with
 |none=>exact hd
 |some v=>
  show(if v<0 then(v+(n:Int)).toNat else min v.toNat n)<=n;by_cases hv:v<0
  ·rw[if_pos hv];omega
  ·rw[if_neg hv];exact Nat.min_le_right _ _
theorem Om (v:Int)(n d:Nat):(if v<0 then max (v+(n:Int)) 0 else min v (n:Int))=((sIx n d (U v):Nat):Int):=by
 show(if v<0 then max (v+(n:Int)) 0 else min v (n:Int))=(((if v<0 then(v+(n:Int)).toNat else min v.toNat n):Nat):Int);by_cases hv:v<0
 ·simp only[if_pos hv];omega
 ·simp only[if_neg hv];omega
theorem UX (lo hi:Option Int)(n:Nat):Builtin.Slice.sliceAdjust lo hi 1 (n:Int)=(((sIx n 0 lo:Nat):Int),((sIx n n hi:Nat):Int)):=by
 have h1:¬((1:Int)<0):=by omega
 unfold Builtin.Slice.sliceAdjust;simp only[h1,if_false];refine Prod.ext ?_ ?_
 ·cases lo with
  |none=>rfl
  |some v=>exact Om v n 0
 ·cases hi with
  |none=>rfl
  |some v=>exact Om v n n
theorem UY (i j:Nat):Builtin.Slice.slicePlaces (i:Int) (j:Int) 1=j-i:=by
 unfold Builtin.Slice.slicePlaces;have h1:(1:Int) > 0:=by omega
 simp only[h1,if_true,Int.ediv_one];split<;>omega
theorem M0 {v:cj}{o:Option Int}{Q:Option Int->cE->Prop}(p:IsPart v o)(h:Q o s):cQ (c8 prog w) A (Builtin.Slice.slicePartIndex v) Q E s:=by
 cases p with
 |none=>exact slicePart_none h
 |int i t=>exact slicePart_int h
theorem qo {sl:cr}{vl vu:cj}{lo hi:Option Int}{n:Nat}{Q:Int×Int×Nat->cE->Prop}(hs:s.heap.IsSliceOf sl vl vu .none)(pl:IsPart vl lo)(pu:IsPart vu hi)
  (h:Q (((sIx n 0 lo:Nat):Int),1,sIx n n hi-sIx n 0 lo) s):cQ (c8 prog w) A (Builtin.Slice.sliceApplied (.ref sl) (pure (n:Int))) Q E s:=by
 obtain⟨os,Ff,xZ,Cz⟩:=id hs;unfold Builtin.Slice.sliceApplied Builtin.Slice.sliceFields;refine cq (cq (wpAny_field Ff Cz (x:=vl) rfl (cq (wpAny_field Ff Cz (x:=vu) rfl (cq (wpAny_field Ff Cz (x:=.none) rfl (cP ?_)))))));refine cq (slicePart_none ?_);show cQ _ _ (if((1:Int)==0)=Â then _ else _) _ _ s;rw[if_neg (by decide)];refine cq (M0 pl (cq (M0 pu (cq (cP ?_)))));show cQ _ _ (match Builtin.Slice.sliceAdjust lo hi 1 (n:Int)with|(lo,hi)=>pure (lo,(1:Int),Builtin.Slice.slicePlaces lo hi 1)) _ _ s;rw[UX lo hi n];show cQ _ _ (pure (((sIx n 0 lo:Nat):Int),(1:Int),Builtin.Slice.slicePlaces ((sIx n 0 lo:Nat):Int) ((sIx n n hi:Nat):Int) 1)) _ _ s;rw[UY];exact cP h
theorem V9 (xs:Array cj)(i k:Nat):((cv k).filterMap λ(m:Nat)=>xs[((i:Int)+(m:Int)*1).toNat]?).toArray=((xs.toList.drop i).take k).toArray:=by
 have e:(λ(m:Nat)=>xs[((i:Int)+(m:Int)*1).toNat]?)=λm=>xs[i+m]?:=by
  funext m;have:((i:Int)+(m:Int)*1).toNat=i+m:=by omega
  rw[this]
 rw[e];have:=pick_run xs i k;rw[List.filterMap_map]at this;have e2:((λx=>xs[x]?) ∘ λx=>i+x)=λm=>xs[i+m]?:=rfl;rw[e2]at this;rw[this]
theorem getItem_tuple_cut {t sl:cr}{items:Array cj}{vl vu:cj}{lo hi:Option Int}{Q:cj->cE->Prop}(ht:IsTup s.heap t items)(hs:s.heap.IsSliceOf sl vl vu .none)(pl:IsPart vl lo)(pu:IsPart vu hi)
    (hw:¬(sIx items.size 0 lo=0/\sIx items.size items.size hi=items.size))
    (h:Q (.ref s.heap.objs.size) { s with heap:=s.heap.push { cls:=.type "tuple",data:=.seq ((items.toList.drop (sIx items.size 0 lo)).take (sIx items.size items.size hi-sIx items.size 0 lo)).toArray } })
    (hsz:items.size<=sizeLine):cQ (c8 prog w) A (qN (.ref t) (.ref sl)) Q E s:=by
  have t7:sizeOk (.seq ((items.toList.drop (sIx items.size 0 lo)).take (sIx items.size items.size hi-sIx items.size 0 lo)).toArray):=by show((items.toList.drop (sIx items.size 0 lo)).take (sIx items.size items.size hi-sIx items.size 0 lo)).toArray.size<=sizeLine;rw[cU,fK,gk,fw];omega
  have hj:sIx items.size items.size hi<=items.size:=Η _ _ (cH _) hi;obtain⟨os,Ff,xZ,Cz⟩:=id hs;have Rb:s.TypeIs (.ref sl) "slice":=⟨os,Ff,xZ⟩;unfold qN
  try with_reducible refine oq ?_
  first|refine cq (cP ?_)|skip
  refine cq (wpAny_sequenceKey ht.typeIs (by decide) ?_);refine cq (wpAny_callSpecial?_slot (name:=Str.ofString "__getitem__") ht.typeIs jM
    (wpAny_call_entry jM ht.typeIs entry_tuple_getitem ?_ (args_tuple_getitem _ _)))
  show cQ _ _ (Builtin.Tuple.tupleItemsOf (.ref t) >>= _) _ _ s;refine cq (tupleItemsOf_ ht ?_);refine cq (wpAny_typeOf Rb ?_);rw[if_pos (by decide)];refine cq (qo hs pl pu ?_);have RA:¬((((sIx items.size 0 lo:Nat):Int)==0&&(1:Int)==1&&(sIx items.size items.size hi-sIx items.size 0 lo)==items.size)=Â):=by intro q;rw[cY,cY]at q;have q1:((sIx items.size 0 lo:Nat):Int)=0:=eq_of_beq q.1.1;have q2:sIx items.size items.size hi-sIx items.size 0 lo=items.size:=eq_of_beq q.2;exact hw ⟨by omega,by omega⟩
  show cQ _ _ (if(((sIx items.size 0 lo:Nat):Int)==0&&(1:Int)==1&&(sIx items.size items.size hi-sIx items.size 0 lo)==items.size)=Â then _ else _) _ _ s;rw[if_neg RA,V9]
  first
    |exact cq (m:=Builtin.Tuple.tupleExact _) (gU (cP ⟨_,rfl,cP h⟩) t7)
    |exact cq (m:=Builtin.Tuple.tupleExact _) (gU (cq (cP (cP ⟨_,rfl,cP h⟩))) t7)
    |exact cq (cq (m:=Builtin.Tuple.tupleExact _) (gU (cP (cP ⟨_,rfl,cP h⟩)) t7))
    |exact cq (cq (m:=Builtin.Tuple.tupleExact _) (gU (cP ⟨_,rfl,cP h⟩) t7))
end
end HT
namespace L2
open PySem PySem.Spec PyProof.Rows
abbrev TO:=St->Hp->(Option Int->Hp->Prop)->Prop
def PO (X:Cx)(e:Option Expr)(t:TO):Prop :=
 ∀(cn:List (cr×iZ)) (s:cE) (M:St) (H:Hp) (Q:Option Int->Hp->Prop),Ë X cn M H s->t M H Q ->
  cQ (c8 X.prog X.w) X.A (evalPart e X.env) (λu s'=>∃o H',Ë X cn M H' s'/\IsPart u o/\Q o H') X.xe s
def B5:TO:=λ_ H Q=>Q L H
def F8 (t:TE):TO:=λM H Q=>t M H λx H1=>∃i,x=.int i/\Q (U i) H1
theorem UZ {ns:List Int}:∀{us:List cj},dU (ns.map V.int) us->IntsAre us ns:=by
 induction ns with
 |nil=>intro us r;rw[qM]at r;cases r;exact .nil
 |cons n ns ih=>
  intro us r;rw[cL]at r;cases r with
  |cons r1 r2=>obtain⟨t,e⟩:=r1;subst e;exact .cons n t (ih r2)
variable {X:Cx}{e:Expr}{p2 pos:oj}{te:TE}{us:List cj}{xs:List V}
section
variable {lo hi:Option Expr}{tl th:TO}
theorem Yj:PO X L B5:=by intro cn s M H Q I h;rw[evalPart_none];exact cP ⟨L,H,I,.none,h⟩
theorem Yk (h:PE X e te):PO X (U e) (F8 te):=by intro cn s M H Q I hw;rw[evalPart_some];refine fX (h cn s M H _ I hw) λu s1 gK=>?_;obtain⟨x,H1,I1,r1,q1⟩:=gK;obtain⟨i,rfl,q⟩:=q1;obtain⟨t,rfl⟩:=r1;exact⟨U i,H1,I1,.int i t,q⟩
def Il (X:Cx)(r:V->Option Int->Option Int->Hp->VK->Prop):Prop :=
 ∀(cn:List (cr×iZ)) (s:cE) (M:St) (H:Hp) (x:V) (v vl vu:cj) (lo hi:Option Int) (sl:cr) (Q:VK),Ë X cn M H s->Í x v->s.heap.IsSliceOf sl vl vu .none->IsPart vl lo->IsPart vu hi->r x lo hi H Q ->
  ∃T id,typeLookup (.type T) "__getitem__"=pure (U (.builtin id))/\s.TypeIs v T/\cQ (c8 X.prog X.w) X.A (qN v (.ref sl)) (EP X cn M Q) X.xe s
def SG (r:V->Option Int->Option Int->Hp->VK->Prop)(te:TE)(tl th:TO):TE:=λM H Q=>te M H λx H1=>tl M H1 λl H2=>th M H2 λu H3=>r x l u H3 Q
theorem NU {r:V->Option Int->Option Int->Hp->VK->Prop}(hr:Il X r)(he:PE X e te)(hl:PO X lo tl)(hu:PO X hi th):PE X (.Subscript e (.Slice lo hi L p2) pos) (SG r te tl th):=by intro cn s M H Q I h;refine Subscript_ (fX (he cn s M H _ I h) λv s1 gK=>?_);obtain⟨x,H1,I1,r1,q1⟩:=gK;refine wpAny_Slice (fX (hl cn s1 M H1 _ I1 q1) λvl s2 ⟨l,H2,I2,pl,q2⟩=>fX (hu cn s2 M H2 _ I2 q2) λvu s3 gK=>?_);obtain⟨u,H3,I3,pu,q3⟩:=gK;rw[evalPart_none];refine cP ?_;have I4:Ë X cn M H3 { s3 with heap:=s3.heap.push { cls:=.type "slice",data:=.fields #[vl,vu,.none] } }:=I3.kept (t':=s3.toks) λb ob q=>cw _ q;obtain⟨T,id,hT,ht,hg⟩:=hr cn { s3 with heap:=s3.heap.push { cls:=.type "slice",data:=.fields #[vl,vu,.none] } } M H3 x v vl vu l u s3.heap.objs.size Q I4 r1 (cM.IsSliceOf.new ..) pl pu q3;show cQ (c8 X.prog X.w) X.A (subscriptTail e (.Slice lo hi L p2) v (.ref s3.heap.objs.size)) (EP X cn M Q) X.xe { s3 with heap:=s3.heap.push { cls:=.type "slice",data:=.fields #[vl,vu,.none] } };exact tail_any (ops:=[.ref s3.heap.objs.size,v]) ht hT hg (by with_unfolding_all rfl)
def uL (xs:List V)(lo hi:Option Int):List V:=(xs.drop (HT.sIx xs.length 0 lo)).take (HT.sIx xs.length xs.length hi-HT.sIx xs.length 0 lo)
theorem MS (xs:List V)(lo hi:Option Int):(uL xs lo hi).length<=xs.length:=by unfold uL;rw[fK,gk];omega
def JO (K:cm):V->Option Int->Option Int->Hp->VK->Prop:=λx lo hi H Q=>∃a xs,x=.ref a/\nG K H a xs /\
 ¬(HT.sIx xs.length 0 lo=0/\HT.sIx xs.length xs.length hi=xs.length)/\∀p,H p=L->Q (.ref p) (upd H p (.tup (uL xs lo hi)))
theorem Ζ:Il X (JO X.K):=by
 intro cn s M H x v vl vu lo hi sl Q I rx hs pl pu h;obtain⟨a,xs,rfl,hx,hw,q⟩:=h;cases rx;obtain⟨dZ,r,ht,hz⟩:=I.tuple hx;have iu:dZ.toArray.size=xs.length:=by rw[cU];exact r.length.symm
 refine⟨"tuple",_,jM.lookup,ht.typeIs,?_⟩;refine HT.getItem_tuple_cut ht hs pl pu (by rw[iu];exact hw) ?_ (by rw[iu];exact hz);rw[iu];refine⟨.ref s.heap.objs.size,_,I.laid (t':=s.toks) (o:=.tup (uL xs lo hi)) (λb ob q=>cw _ q) (cH _) ?_,rfl,q _ (I.hok.fresh (cH _))⟩;exact⟨d8 (MS xs lo hi) hz,_,(r.drop (HT.sIx xs.length 0 lo)).take (HT.sIx xs.length xs.length hi-HT.sIx xs.length 0 lo),IsTup.new _ _⟩
def CK (K:cm):R2:=λx y H Q=>∃a b xs ys,x=.ref a/\y=.ref b/\nG K H a xs/\nG K H b ys/\xs≠[]/\xs.length+ys.length<=sizeLine /\
 (ys=[]->Q (.ref a) H)/\(ys≠[]->∀p,H p=L->Q (.ref p) (upd H p (.tup (xs++ys))))
theorem dU.nil_iff (r:dU xs us):us=[]↔xs=[]:=by
 cases r with
 |nil=>simp
 |cons _ _=>simp
theorem Yl:li X (gI .Add) (CK X.K):=by intro cn s M H x y v u Q I rx ry h;obtain⟨a,b,xs,ys,rfl,rfl,ha,hb,hx,hz,q1,q2⟩:=h;cases rx;cases ry;obtain⟨dZ,r1,p1,_⟩:=I.tuple ha;obtain⟨BO,r2,p2,_⟩:=I.tuple hb;refine HT.cat_tup p1 p2 (λz=>hx (r1.nil_iff.mp z)) (λz=>⟨.ref a,H,I,rfl,q1 (r2.nil_iff.mp z)⟩) (λz=>?_) (by rw[←r1.length,←r2.length];exact hz);refine⟨.ref s.heap.objs.size,_,I.laid (t':=s.toks) (o:=.tup (xs++ys)) (λb ob q=>cw _ q) (cH _) ?_,rfl,q2 (λw=>z (r2.nil_iff.mpr w)) _ (I.hok.fresh (cH _))⟩;exact⟨by rw[cV];exact hz,_,r1.append r2,IsTup.new _ _⟩
end
noncomputable def ò (n:Nat)(i:Int):Option Nat:=if 0<=i then(if i<n then U i.toNat else L)else if -(n:Int)<=i then U (i+n).toNat else L
variable {α:Type}
def atI (xs:List α)(i:Int):Option α:=(ò xs.length i).bind λj=>xs[j]?
variable {j n:Nat}
theorem On {i:Int}(h:ò n i=U j):seqIndex? i n=U j/\j<n/\-(n:Int)<=i/\i<n:=by
 unfold ò at h;by_cases h0:0<=i
 ·rw[if_pos h0]at h;by_cases h1:i<n
  ·rw[if_pos h1]at h;have e:i.toNat=j:=Option.some.inj h;exact⟨by rw[uI h0 h1,e],by omega,by omega,h1⟩
  ·rw[if_neg h1]at h;cases h
 ·rw[if_neg h0]at h;by_cases h1:-(n:Int)<=i
  ·rw[if_pos h1]at h;have e:(i+n).toNat=j:=Option.some.inj h;exact⟨by rw[tF (by omega) h1,e],by omega,h1,by omega⟩
  ·rw[if_neg h1]at h;cases h
theorem Ht {xs:List α}{i:Int}{v:α}(h:atI xs i=U v):∃j,seqIndex? i xs.length=U j/\xs[j]?=U v/\j<xs.length/\-(xs.length:Int)<=i/\i<xs.length:=by
 unfold atI at h;cases e:ò xs.length i with
 |none=>rw[e]at h;cases h
 |some j=>rw[e]at h;obtain⟨h1,h2,h3,h4⟩:=On e;exact⟨j,h1,h,h2,h3,h4⟩
theorem yc {xs:List α}{v:α}(h:xs[j]?=U v):atI xs (j:Int)=U v:=by
 have hj:j<xs.length:=(de.mp h).1;have e:ò xs.length (j:Int)=U j:=by unfold ò;rw[if_pos (by omega),if_pos (by omega)];simp
 unfold atI;rw[e];exact h
def oW (b:Expr):Prop:=∀o i,uJ b Ã o i=operate [o,i] (qN o i)
def Bi (X:Cx)(r:R2):Prop :=
 ∀(value slice:Expr) (cn:List (cr×iZ)) (s:cE) (M:St) (H:Hp) (x y:V) (v u:cj) (Q:VK),Ë X cn M H s->Í x v->Í y u->r x y H Q ->
  uJ slice Ã v u=operate [v,u] (qN v u)->cQ (c8 X.prog X.w) X.A (subscriptTail value slice v u) (EP X cn M Q) X.xe s
def CV (X:Cx)(id:String)(r:V->List V->Hp->VK->Prop):Prop :=
 ∀(cn:List (cr×iZ)) (s:cE) (M:St) (H:Hp) (x:V) (xs:List V) (v:cj) (us:List cj) (Q:VK),Ë X cn M H s->Í x v->dU xs us->r x xs H Q ->
  cQ (c8 X.prog X.w) X.A (call (.builtin id) (v::us)) (EP X cn M Q) X.xe s
variable {H:Hp}{T:String}{fQ:oj}{es:List Expr}{dZ:List cj}{name:Str}{o:Expr}{cn:List (cr×iZ)}{r:R2}{s:cE}{ta tb to:TE}{u:cj}{y:V}{ys:List V}{M:St}
section
variable {a b:Expr}
theorem Bi.or {r':R2}(h:Bi X r)(h':Bi X r'):Bi X (λx y H Q=>r x y H Q\/r' x y H Q):=by
 intro value slice cn s M H x y v u Q I rx ry q hs;rcases q with q|q
 ·exact h value slice cn s M H x y v u Q I rx ry q hs
 ·exact h' value slice cn s M H x y v u Q I rx ry q hs
theorem Lu (hr:Bi X r)(ha:PE X a ta)(hb:PE X b tb)(hs:oW b):PE X (.Subscript a b pos) (G7 r ta tb):=by intro cn s M H Q I h;exact Subscript_ (C1 ha hb I h λv u s2 x y H2 I2 rx ry q=>hr a b cn s2 M H2 x y v u Q I2 rx ry q (hs _ _))
def FM (K:cm):R2:=λx y H Q=>∃p xs i v,x=.ref p/\y=.int i/\ir K H p xs/\atI xs i=U v/\Q v H
def FP (K:cm):R2:=λx y H Q=>∃p xs i v,x=.ref p/\y=.int i/\nG K H p xs/\atI xs i=U v/\Q v H
def FO:R2:=λx y H Q=>∃z i c,x=.str z/\y=.int i/\z.length<=sizeLine/\atI z.cps.toList i=U c/\Q (.str ⟨#[c]⟩) H
theorem Oo:Bi X (FM X.K):=by
 intro value slice cn s M H x y v u Q I rx ry h hs;obtain⟨p,xs,i,z,rfl,rfl,hq,he,q⟩:=h;cases rx;obtain⟨t,rfl⟩:=ry;obtain⟨dZ,r,pl,hz⟩:=I.list hq;obtain⟨j,h1,h2,h3,h4,h5⟩:=Ht he;obtain⟨w,ew,zN⟩:=r.get h2;have hl:=r.length;have hn:=pR;have fin:EP X cn M Q w s:=⟨z,H,I,zN,q⟩;by_cases h0:0<=i
 ·have hj:i.toNat=j:=by rw[uI h0 h5]at h1;exact Option.some.inj h1
  exact item_listR pl.isList h0 (by omega) (by rw[hj];simpa using ew) fin hs
 ·have hj:(i+(dZ.toArray.size:Int)).toNat=j:=by rw[tF (by omega) h4]at h1;rw[cU,←hl];exact Option.some.inj h1
  exact subscriptTail_builtinR (x:=w) pl.isList.typeIs slot_list_getitem.lookup
   (wpAny_getItem_list_neg (Q:=λr s'=>r=w/\EP X cn M Q r s') pl.isList (by omega) (by rw[cU]<;>omega) (by omega) (by rw[hj];simpa using ew) ⟨rfl,fin⟩) hs
theorem Ε:Bi X (FP X.K):=by
 intro value slice cn s M H x y v u Q I rx ry h hs;obtain⟨p,xs,i,z,rfl,rfl,hq,he,q⟩:=h;cases rx;obtain⟨t,rfl⟩:=ry;obtain⟨dZ,r,pl,hz⟩:=I.tuple hq;obtain⟨j,h1,h2,h3,h4,h5⟩:=Ht he;obtain⟨w,ew,zN⟩:=r.get h2;have hl:=r.length;have hn:=pR;have fin:EP X cn M Q w s:=⟨z,H,I,zN,q⟩;exact subscriptTail_builtinR (x:=w) pl.typeIs slot_tuple_getitem.lookup
  (getItem_tuple (j:=j) (Q:=λr s'=>r=w/\EP X cn M Q r s') pl (by omega) (by omega) (by rw[cU,←hl];exact h1) (by simpa using ew) ⟨rfl,fin⟩) hs
theorem uP:Bi X FO:=by
 intro value slice cn s M H x y v u Q I rx ry h hs;obtain⟨z,i,c,rfl,rfl,hz,he,q⟩:=h;obtain⟨t,rfl⟩:=rx;obtain⟨t',rfl⟩:=ry;obtain⟨j,h1,h2,h3,h4,h5⟩:=Ht he;have hl:z.cps.toList.length=z.length:=by simp[Str.length]
 rw[hl]at h1 h4 h5;have hn:=pR;exact tail_any (typeIs_str s z t) slot_str_getitem.lookup (getItem_str (c:=c) (by have e1:decide (i < -(2 ^ 63:Int))=Ã:=decide_eq_false (by omega);have e2:decide (i >= 2 ^ 63)=Ã:=decide_eq_false (by omega);rw[e1,e2,Bool.or_false]) (by rw[h1];simpa using h2) ⟨.str ⟨#[c]⟩,H,I.tok _,⟨_,rfl⟩,q⟩) hs
def Mw (K:cm):R2:=λx y H Q=>FM K x y H Q\/FP K x y H Q\/FO x y H Q
theorem Ed:Bi X (Mw X.K):=Oo.or (Ε.or uP)
theorem U0 (dZ:List cj)(n j:Nat)(u:cj):iZ.mapSeq (·.setIfInBounds j u) { cls:=.type "list",data:=.seq dZ.toArray n } = { cls:=.type "list",data:=.seq (dZ.set j u).toArray n }:=by simp[iZ.mapSeq]
theorem Ë.lst {p:cr}(I:Ë X cn M H s)(h:H p=U (.lst xs)) :
    ∃(dZ:List cj) (n:Nat),dU xs dZ/\s.heap.get? p=U { cls:=.type "list",data:=.seq dZ.toArray n }/\xs.length<=sizeLine:=by
  obtain⟨z,dZ,n,r,e⟩:=I.hok p _ h;exact⟨dZ,n,r,e,z⟩
theorem Ë.lstUpd {p:cr}{its':List cj}{n':Nat}{f:iZ->iZ}(I:Ë X cn M H s)(h:H p=U (.lst xs))
    (ho:s.heap.get? p=U { cls:=.type "list",data:=.seq dZ.toArray n }) (hf:f { cls:=.type "list",data:=.seq dZ.toArray n } = { cls:=.type "list",data:=.seq its'.toArray n' }) (r:dU ys its') (hz:ys.length<=sizeLine) (t:Nat) :
    Ë X cn M (upd H p (.lst ys)) { s with heap:=s.heap.update p f,toks:=t }:=by
  have e:(s.heap.update p f).get? p=U { cls:=.type "list",data:=.seq its'.toArray n' }:=by rw[wA f ho (by rw[hf]<;>rfl),hf]
  refine I.write (x:=p) (e:=p) (by rw[h];trivial) (.inl rfl) (λb u hb q=>(vG _ _ (Ne.symm hb)).trans q) ⟨_,e⟩ ?_;exact⟨hz,its',n',r,e⟩
def FT:V->V->V->Hp->(Hp->Prop)->Prop:=λo i v H Q=>∃p xs k j,o=.ref p/\i=.int k/\H p=U (.lst xs)/\ò xs.length k=U j/\Q (upd H p (.lst (xs.set j v)))
theorem Kr:CZ X FT:=by
 intro cn s M H o i v ov iv u Q I ro ri rv h;obtain⟨p,xs,k,j,rfl,rfl,hp,hj,q⟩:=h;cases ro;obtain⟨t,rfl⟩:=ri;obtain⟨dZ,n,r,ho,hz⟩:=I.lst hp;obtain⟨h1,h2,h3,h4⟩:=On hj;have hl:=r.length;have hn:=pR;have I':Ë X cn M (upd H p (.lst (xs.set j v))) { s with heap:=s.heap.update p (iZ.mapSeq (·.setIfInBounds j u)) } :=
  I.lstUpd hp ho (U0 dZ n j u) (r.set rv j) (by rw[iz];exact hz) s.toks
 by_cases h0:0<=k
 ·have hk:k.toNat=j:=by rw[uI h0 h4]at h1;exact Option.some.inj h1
  exact PySem.W.ki_setAt ho h0 (by omega) (by rw[cU,←hl];exact h4) (by rw[hk];exact⟨_,I',q⟩)
 ·have hk:(k+(dZ.toArray.size:Int)).toNat=j:=by rw[tF (by omega) h3]at h1;rw[cU,←hl];exact Option.some.inj h1
  exact PySem.W.ki_setBack ho (by omega) (by rw[cU,←hl];exact h3) (by omega) (by rw[hk];exact⟨_,I',q⟩)
theorem T2 (lo hi:Option Int)(n:Nat):(mh lo hi L n).1=((HT.sIx n 0 lo:Nat):Int)/\(mh lo hi L n).2.1=((HT.sIx n n hi:Nat):Int)/\(mh lo hi L n).2.2=1:=by
 refine⟨?_,?_,rfl⟩
 ·cases lo with
  |none=>simp[mh,HT.sIx]
  |some i=>
   simp only[mh,HT.sIx,yN,show(1:Int) > 0 by decide,if_true];by_cases h:i<0
   ·simp only[h,if_true]<;>omega
   ·simp only[h,if_false]<;>omega
 ·cases hi with
  |none=>simp[mh,HT.sIx]
  |some i=>
   simp only[mh,HT.sIx,yN,show(1:Int) > 0 by decide,if_true];by_cases h:i<0
   ·simp only[h,if_true]<;>omega
   ·simp only[h,if_false]<;>omega
theorem Tr (dZ:List cj)(lo hi:Option Int):slicePick dZ.toArray lo hi L=((dZ.drop (HT.sIx dZ.length 0 lo)).take (HT.sIx dZ.length dZ.length hi-HT.sIx dZ.length 0 lo)).toArray:=by obtain⟨h1,h2,h3⟩:=T2 lo hi dZ.toArray.size;unfold slicePick;rw[h1,h2,h3];simp only[sliceRange_one,pick_run,cU]<;>rfl
def JN (K:cm):V->Option Int->Option Int->Hp->VK->Prop:=λx lo hi H Q=>∃a xs,x=.ref a/\ir K H a xs/\∀p,H p=L->Q (.ref p) (upd H p (.lst (uL xs lo hi)))
theorem Ym:Il X (JN X.K):=by intro cn s M H x v vl vu lo hi sl Q I rx hs pl pu h;obtain⟨a,xs,rfl,hx,q⟩:=h;cases rx;obtain⟨dZ,r,ht,hz⟩:=I.list hx;have iu:=r.length;refine⟨"list",_,slot_list_getitem.lookup,ht.isList.typeIs,?_⟩;refine wpAny_getItem_list_slice ht.isList hs pl pu .none (by simp) ?_ (by rw[cU]<;>omega);rw[Tr,←iu];refine⟨.ref s.heap.objs.size,_,I.laid (t':=s.toks) (o:=.lst (uL xs lo hi)) (λb ob q=>cw _ q) (cH _) ?_,rfl,q _ (I.hok.fresh (cH _))⟩;exact⟨d8 (MS xs lo hi) hz,_,0,(r.drop (HT.sIx xs.length 0 lo)).take (HT.sIx xs.length xs.length hi-HT.sIx xs.length 0 lo),dc _ rfl⟩
noncomputable def mZ:V->Bool
 |.non=>Â
 |.bl _=>Â
 |.int _=>Â
 |.str _=>Â
 |_=>Ã
noncomputable def yX:V->V->Bool
 |.non,.non=>Â
 |.bl a,.bl b=>a==b
 |.bl a,.int b=>(if a then 1 else 0)==b
 |.int a,.bl b=>a==(if b then 1 else 0)
 |.int a,.int b=>a==b
 |.str a,.str b=>a==b
 |_,_=>Ã
theorem Δ {A:dQ}{x:V}{v:cj}(ry:Í y u)(rx:Í x v)(fy:mZ y=Â)(fx:mZ x=Â):SeqAt.EqAt A s u v (yX y x):=by
 cases y with
 |non=>
  cases ry;cases x with
  |non=>cases rx;exact SeqAt.EqAt.same _
  |bl b=>cases rx;exact SeqAt.EqAt.none_bool b
  |int b=>obtain⟨t,rfl⟩:=rx;exact SeqAt.EqAt.none_int b t
  |str b=>obtain⟨t,rfl⟩:=rx;exact SeqAt.EqAt.none_str b t
  |_=>exact absurd (show Ã=Â from fx) cI
 |bl a=>
  cases ry;cases x with
  |non=>cases rx;exact SeqAt.EqAt.bool_none a
  |bl b=>cases rx;exact SeqAt.EqAt.bool_bool a b
  |int b=>obtain⟨t,rfl⟩:=rx;exact SeqAt.EqAt.bool_int a b t
  |str b=>obtain⟨t,rfl⟩:=rx;exact SeqAt.EqAt.bool_str a b t
  |_=>exact absurd (show Ã=Â from fx) cI
 |int a=>
  obtain⟨t',rfl⟩:=ry;cases x with
  |non=>cases rx;exact SeqAt.EqAt.int_none a t'
  |bl b=>cases rx;exact SeqAt.EqAt.int_bool a t' b
  |int b=>obtain⟨t,rfl⟩:=rx;exact SeqAt.EqAt.int_int a t' b t
  |str b=>obtain⟨t,rfl⟩:=rx;exact SeqAt.EqAt.int_str a t' b t
  |_=>exact absurd (show Ã=Â from fx) cI
 |str a=>
  obtain⟨t',rfl⟩:=ry;cases x with
  |non=>cases rx;exact SeqAt.EqAt.str_none a t'
  |bl b=>cases rx;exact SeqAt.EqAt.str_bool a t' b
  |int b=>obtain⟨t,rfl⟩:=rx;exact SeqAt.EqAt.str_int a t' b t
  |str b=>obtain⟨t,rfl⟩:=rx;exact SeqAt.EqAt.str_str a t' b t
  |_=>exact absurd (show Ã=Â from fx) cI
 |_=>exact absurd (show Ã=Â from fy) cI
def vC (x:V)(u:cj):Bool:=match u with
 |.none=>yX .non x
 |.bool b=>yX (.bl b) x
 |.int i _=>yX (.int i) x
 |.str z _=>yX (.str z) x
 |_=>Ã
theorem Lb {x:V}(r:Í y u)(f:mZ y=Â):vC x u=yX y x:=by
 cases y with
 |non=>cases r;rfl
 |bl b=>cases r;rfl
 |int i=>obtain⟨t,rfl⟩:=r;rfl
 |str z=>obtain⟨t,rfl⟩:=r;rfl
 |_=>exact absurd (show Ã=Â from f) cI
theorem Gd {x:V}:∀{xs:List V} {us:List cj},dU xs us->xs.all mZ=Â->us.any (vC x)=xs.any λy=>yX y x
 |_,_,.nil,_=>rfl
 |y::xs,u::us,.cons r t,f=>by rw[fq,cY]at f;rw[iA,iA,Lb r f.1,Gd t f.2]
theorem v9 {A:dQ}{s:cE}{x:V}{v:cj}(rx:Í x v)(fx:mZ x=Â):∀{xs:List V} {us:List cj},dU xs us->xs.all mZ=Â->∀u∈us,SeqAt.EqAt A s u v (vC x u)
 |_,_,.nil,_=>λu hu=>by cases hu
 |y::xs,u::us,.cons r t,f=>λu' hu=>by
  rw[fq,cY]at f;rcases cu.mp hu with rfl|hu
  ·rw[Lb r f.1];exact Δ r rx f.1 fx
  ·exact v9 rx fx t f.2 u' hu
def G0 (x:V)(xs:List V):Bool:=xs.any λy=>yX y x
def JM (K:cm)(neg:Bool):R2:=λx y H Q=>∃p xs,y=.ref p/\(ir K H p xs\/nG K H p xs)/\mZ x=Â/\xs.all mZ=Â/\Q (.bl (if neg then !G0 x xs else G0 x xs)) H
theorem ux:li X (eh .In) (JM X.K Ã):=by
 intro cn s M H x y v u Q I rx ry h;obtain⟨p,xs,rfl,hq,fx,fs,q⟩:=h;cases ry;rcases hq with hq|hq
 ·obtain⟨dZ,r,pl,hz⟩:=I.list hq;refine SeqAt.in_listAt (vC x) pl.isList (λw hw=>v9 rx fx r fs w (by simpa using hw)) ⟨.bl _,H,I,rfl,?_⟩;rw[show dZ.toArray.any (vC x)=dZ.any (vC x)by simp,Gd r fs];exact q
 ·obtain⟨dZ,r,pl,hz⟩:=I.tuple hq;refine SeqAt.in_tupleAt (vC x) pl (λw hw=>v9 rx fx r fs w (by simpa using hw)) ⟨.bl _,H,I,rfl,?_⟩;rw[show dZ.toArray.any (vC x)=dZ.any (vC x)by simp,Gd r fs];exact q
theorem qc:li X (eh .NotIn) (JM X.K Â):=by
 intro cn s M H x y v u Q I rx ry h;obtain⟨p,xs,rfl,hq,fx,fs,q⟩:=h;cases ry;rcases hq with hq|hq
 ·obtain⟨dZ,r,pl,hz⟩:=I.list hq;refine SeqAt.notIn_listAt (vC x) pl.isList (λw hw=>v9 rx fx r fs w (by simpa using hw)) ⟨.bl _,H,I,rfl,?_⟩;rw[show dZ.toArray.any (vC x)=dZ.any (vC x)by simp,Gd r fs];exact q
 ·obtain⟨dZ,r,pl,hz⟩:=I.tuple hq;refine SeqAt.notIn_tupleAt (vC x) pl (λw hw=>v9 rx fx r fs w (by simpa using hw)) ⟨.bl _,H,I,rfl,?_⟩;rw[show dZ.toArray.any (vC x)=dZ.any (vC x)by simp,Gd r fs];exact q
theorem TR:iW X (.builtin "len") (λxs H Q=>∃p ys,xs=[.ref p]/\(ir X.K H p ys\/nG X.K H p ys)/\Q (.int ys.length) H):=by
 intro cn s M H xs us Q I r h;obtain⟨p,ys,rfl,hq,q⟩:=h;obtain⟨u,rfl,rx⟩:=uE r;cases rx;have hn:=pR;rcases hq with hq|hq
 ·obtain⟨dZ,r',pl,hz⟩:=I.list hq;have iu:=r'.length;exact Calls.call_len_list pl.isList (by simp only[cU]<;>omega) ⟨.int ys.length,H,I.tok _,⟨s.toks+1,by rw[cU,iu]⟩,q⟩
 ·obtain⟨dZ,r',pl,hz⟩:=I.tuple hq;have iu:=r'.length;exact len_tuple pl (by simp only[cU]<;>omega) ⟨.int ys.length,H,I.tok _,⟨s.toks+1,by rw[cU,iu]⟩,q⟩
theorem TU:iW X (.builtin "len") (λxs H Q=>∃z,xs=[.str z]/\z.length<=sizeLine/\Q (.int z.length) H):=by intro cn s M H xs us Q I r h;obtain⟨z,rfl,hz,q⟩:=h;obtain⟨u,rfl,t,rfl⟩:=uE r;have hn:=pR;exact len_str (by omega) ⟨.int z.length,H,I.tok _,⟨_,rfl⟩,q⟩
theorem iW.or {f:cj}{r r':List V->Hp->VK->Prop}(h:iW X f r)(h':iW X f r'):iW X f (λxs H Q=>r xs H Q\/r' xs H Q):=by
 intro cn s M H xs us Q I rs q;rcases q with q|q
 ·exact h cn s M H xs us Q I rs q
 ·exact h' cn s M H xs us Q I rs q
theorem vo:iW X (.type "list") (λxs H Q=>∃p ys,xs=[.ref p]/\(ir X.K H p ys\/nG X.K H p ys)/\∀l,H l=L->Q (.ref l) (upd H l (.lst ys))):=by
  intro cn s M H xs us Q I r h;obtain⟨p,ys,rfl,hq,q⟩:=h;obtain⟨u,rfl,rx⟩:=uE r;cases rx;have fin:∀(dZ:List cj),dU ys dZ->ys.length<=sizeLine->∀(h':cM) (c':Nat),(∀b o',s.heap.get? b=U o'->h'.get? b=U o') ->
      h'.get? s.heap.objs.size=U { cls:=.type "list",dict:=none,data:=.seq dZ.toArray c',slots:=#[] }->EP X cn M Q (.ref s.heap.objs.size) { s with heap:=h' }:=λdZ r' hz h' c' kp e=>
    ⟨.ref s.heap.objs.size,_,I.laid (t':=s.toks) kp (cH _) (show gO X.prog X.w _ h' _ (.lst ys)from⟨hz,dZ,c',r',e⟩),rfl,q _ (I.hok.fresh (cH _))⟩
  rcases hq with hq|hq
  · obtain⟨dZ,r',pl,hz⟩:=I.list hq;have iu:=r'.length;obtain⟨o,ho,hc,n,hd⟩:=pl.isList;exact call_list_seq p (.inl rfl) ho hc hd (λh' c' kp e=>fin dZ r' hz h' c' kp e) (by simp only[cU]<;>omega)
  · obtain⟨dZ,r',pl,hz⟩:=I.tuple hq;have iu:=r'.length;obtain⟨o,ho,hc,n,hd⟩:=pl;exact call_list_seq p (.inr rfl) ho hc hd (λh' c' kp e=>fin dZ r' hz h' c' kp e) (by simp only[cU]<;>omega)
def MG (K:cm)(T:String)(x:V)(H:Hp):Prop:=match x with
 |.str _=>T = "str"
 |.int _=>T = "int"
 |.ref p=>(T = "list"/\∃xs,ir K H p xs)\/(T = "tuple"/\∃o,K.lookup p=U o/\o.cls=.type "tuple"/\o.dict=L) \/
   (T = "dict"/\((∃eG,H p=U (.dK eG))\/∃eG,H p=U (.dT eG)))\/(T = "set"/\∃ϙ n,H p=U (.set ϙ n))
 |_=>False
theorem Γ {x:V}{v:cj}(I:Ë X cn M H s)(r:Í x v)(ty:MG X.K T x H) :
  s.TypeIs v T/\∀a,v=.ref a->∃ob,s.heap.get? a=U ob/\ob.dict=L:=by
 cases x with
 |str z=>obtain⟨t,rfl⟩:=r;cases(show T = "str" from ty);exact⟨typeIs_str s z t,λ_ e=>nomatch e⟩
 |int i=>obtain⟨t,rfl⟩:=r;cases(show T = "int" from ty);exact⟨Ck s i t,λ_ e=>nomatch e⟩
 |ref p=>
  cases r;rcases ty with⟨rfl,xs,hq⟩|⟨rfl,o,hk,hc,hd⟩|⟨rfl,hk⟩|⟨rfl,ϙ,n,hk⟩
  ·obtain⟨dZ,_,pl,_⟩:=I.list hq;refine⟨pl.isList.typeIs,λa e=>?_⟩;cases e;obtain⟨o,n,e,c,hd,_⟩:=pl;exact⟨o,e,hd⟩
  ·refine⟨⟨o,I.kIn p o hk,hc⟩,λa e=>?_⟩;cases e;exact⟨o,I.kIn _ o hk,hd⟩
  ·have z:∃o,s.heap.get? p=U o/\o.ExactDict:=by
    rcases hk with⟨eG,hk⟩|⟨eG,hk⟩
    ·obtain⟨_,_,_,_,o,_,_,e,ex,_⟩:=I.hok p _ hk;exact⟨o,e,ex⟩
    ·obtain⟨_,_,_,_,o,_,_,e,ex,_⟩:=I.hok p _ hk;exact⟨o,e,ex⟩
   obtain⟨o,e,ex⟩:=z;refine⟨⟨o,e,ex.1⟩,λa e2=>?_⟩;cases e2;exact⟨o,e,ex.2.1⟩
  ·obtain⟨o,_,_,_,e,ex,_⟩:=I.hok p _ hk;refine⟨⟨o,e,ex.1⟩,λa e2=>?_⟩;cases e2;exact⟨o,e,ex.2.1⟩
 |_=>exact False.elim ty
def Su (K:cm)(T:String)(r:V->List V->Hp->VK->Prop)(to:TE)(t:TA):TE:=λM H Q=>to M H λx H1=>MG K T x H1/\t M H1 λxs H2=>r x xs H2 Q
variable {t:TA}{fN:oj}{id:String}{r:V->List V->Hp->VK->Prop}
theorem DM (pa:PlainAttrs T)(slot:Slot T name id)(RP:typeOf (.builtin id)=pure (.type "method_descriptor"))(hm:CV X id r)(ho:PE X o to)(ha:PA X (e::es) t)
  (lR:Ae X o name:=by rfl)
  (pP:Co X fN (e::es):=by rfl)
  (lS:(fQ.endLine==fN.line)=Â:=by rfl) (hs:SE X e es:=by rfl) (jQ:pL X fN es:=by rfl) :
  PE X (.Call (.Attribute o name fQ) (e::es) [] fN) (Su X.K T r to t):=by
 intro cn s M H Q I h;refine wpAny_Call_method_late lR pP lS rfl (fX (ho cn s M H _ I h) λv s1 gK=>?_);obtain⟨x,H1,I1,r1,ty,q1⟩:=gK;obtain⟨h1,h2⟩:=Γ I1 r1 ty;refine⟨T,id,pa,slot,RP,h1,h2,?_⟩;have hA:=ha fN cn s1 M H1 _ I1 q1;rw[hs]at hA ⊢;refine Calls.callWith_builtin (by show(Ã || (jG fN (dD es X.env)).any (·.1))=Ã;rw[jQ]<;>rfl) (Calls.evalArgs_plain ?_);exact fX hA λus s2 ⟨vs,H2,I2,r2,q2⟩=>hm cn s2 M H2 x vs v us Q I2 r1 r2 q2
end
def Qo (X:Cx)(id:String)(r:V->List V->Hp->VK->Prop):Prop :=
 ∀(cn:List (cr×iZ)) (s:cE) (M:St) (H:Hp) (x:V) (xs:List V) (v:cj) (us:List cj) (Q:VK),Ë X cn M H s->Í x v->dU xs us->r x xs H Q ->
  cQ (c8 X.prog X.w) X.A (call (.builtin id) (v::us)) (EP X cn M Q) X.xe s
theorem dU.one:∀{x:V} {us:List cj},dU [x] us->∃u,us=[u]/\Í x u
 |_,_,.cons r .nil=>⟨_,rfl,r⟩
theorem dU.rep {xs:List V}{us:List cj}(h:dU xs us):∀k:Nat,dU (cy k xs).flatten (cy k us).flatten
 |0=>.nil
 |k+1=>by rw[eO,eO,iE,iE];exact dU.append h (dU.rep h k)
theorem Ng (dZ:List cj):∀(k:Nat) (mn:List cj),
  yL (λx1 x2=>x1++x2) mn.toArray (cy k dZ.toArray)=(mn++(cy k dZ).flatten).toArray
 |0,mn=>by simp
 |k+1,mn=>by
  have e:mn.toArray++dZ.toArray=(mn++dZ).toArray:=by simp
  have e2:(mn++dZ)++(cy k dZ).flatten=mn++(cy (k+1) dZ).flatten:=by rw[eO,iE,dR]
  rw[←e2,←Ng dZ k (mn++dZ),←e,eO,iy]
variable {b:cr}{t':Nat}
section
variable {l:cr}{zs:List V}
theorem Ë.lset {its':List cj}{f:Array cj->Array cj}(I:Ë X cn M H s)(hH:H l=U (.lst xs))
    (e:s.heap.get? l=U { cls:=.type "list",data:=.seq dZ.toArray n }) (hf:f dZ.toArray=its'.toArray) (hv:dU ys its') (hz:ys.length<=sizeLine) :
    Ë X cn M (upd H l (.lst ys)) { s with heap:=s.heap.update l (iZ.mapSeq f),toks:=t' }:=by
  have q:=PySem.IsL.update e f;rw[hf]at q;refine I.write (x:=l) (e:=l) (by rw[hH];exact trivial) (.inl rfl) (λb' u hb hu=>(vG s.heap (iZ.mapSeq f) (Ne.symm hb)).trans hu) ⟨_,q⟩ ?_;exact⟨hz,its',_,hv,q⟩
theorem Ë.lnew (I:Ë X cn M H s)(hv:dU ys dZ)(hz:ys.length<=sizeLine) :
    Ë X cn M (upd H s.heap.objs.size (.lst ys)) { s with heap:=s.heap.push { cls:=.type "list",data:=.seq dZ.toArray },toks:=t' } :=
  I.laid (λ_ _ q=>cw _ q) (cH _) ⟨hz,dZ,0,hv,dc _ rfl⟩
theorem Ë.fresh (I:Ë X cn M H s):H s.heap.objs.size=L:=I.hok.fresh (cH _)
theorem Ë.lstM (I:Ë X cn M H s)(hH:H l=U (.lst xs)):xs.length<=sizeLine/\∃(dZ:List cj) (n:Nat),dU xs dZ/\xs.length=dZ.length/\s.heap.get? l=U { cls:=.type "list",data:=.seq dZ.toArray n }:=by obtain⟨z,dZ,n,r,e⟩:=I.hok l _ hH;exact⟨z,dZ,n,r,r.length,e⟩
theorem AR (h:n<=sizeLine):Builtin.List.listTooLong n=Ã:=by unfold Builtin.List.listTooLong;exact decide_eq_false (by omega)
end
def BX:V->List V->Hp->VK->Prop:=λx vs H Q=>∃l xs y,x=.ref l/\vs=[y]/\H l=U (.lst xs)/\xs.length<sizeLine/\Q .non (upd H l (.lst (xs++[y])))
theorem Nh:Qo X "list.append" BX:=by intro cn s M H x vs v us Q I rx rv h;obtain⟨l,xs,y,rfl,rfl,hH,hz,q⟩:=h;cases rx;obtain⟨u,rfl,ru⟩:=rv.one;obtain⟨z,dZ,n,r,hl,e⟩:=I.lstM hH;refine nj F.slot_list_append ⟨_,e,rfl⟩ F.entry_list_append (F.args_list_append_2 _ _) (PySem.list_append l dZ.toArray n u (by rw[cU];omega)) ⟨e,?_⟩;refine⟨.non,_,I.lset (its':=dZ++[u]) hH e (by simp) (r.append (.cons ru .nil)) ?_,rfl,q⟩;rw[cV,kK];omega
theorem Yn (xs:List α)(k:Nat):(cy k xs).flatten.length=k*xs.length:=by
 induction k with
 |zero=>simp
 |succ k ih=>rw[eO,iE,cV,ih,wH,wG]
variable {E:cj->cE->Prop}
end L2
namespace Att
open PySem PySem.W PySem.Calls PyProof.Rows
theorem SV {P:Params}{h:cM}:∀(ns:List Int) (vs:List cj),WellAll P h vs (ns.map WData.int)->IntsAre vs ns:=by
 intro ns;induction ns with
 |nil=>intro vs w;rw[qM]at w;cases w;exact .nil
 |cons n ns ih=>
  intro vs w;rw[cL]at w;cases w with
  |cons a b=>cases a;exact .cons _ _ (ih _ b)
theorem Vi {l:OpenLaw}{n:Nat}(hn:l.most=U n){P:Params}{h:cM}{args:List WData}{vals:List cj}
    (uN:l.row.toRowW.claim.pre args=Â) (Jk:WellAll P h vals args) :
    ∃a vs ns,vals=[cj.ref a]/\args=[WData.list (ns.map WData.int)]/\h.get? a=U { cls:=.type "list",data:=.seq vs.toArray }/\IntsAre vs ns/\ns.length<=n:=by
  have RM:WShape.hasAll [] args [.list .int]=Â:=(pre_splitW uN).1;have hc:l.pre.holds [] { args:=args }=Â:=(pre_splitW uN).2;obtain⟨d,r,rfl,h1,h2⟩:=hasAllW_cons RM;obtain rfl:=hasAllW_nil h2;obtain⟨xs,rfl,h3⟩:=hasW_list h1;obtain⟨ns,rfl⟩:=items_int h3;have iu:ns.length<=n:=by
    unfold OpenLaw.pre at hc;have h4:(WTm.not (.lt (.lit (.int (n:Int))) (.len (.arg 0)))).holds [] { args:=[.list (ns.map .int)] }=Â:=by have h4:=(holds_andW hc).1;rw[hn]at h4;exact h4
    have h5:=condW_of h4 (w_not (w_lt w_lit (w_len_list (w_arg rfl))));rw[cA]at h5;refine Nat.le_of_not_lt λq=>?_;have q':(n:Int)<((ns.length:Nat):Int):=by omega
    first
      |(rw[decide_eq_true q']at h5;exact absurd h5 (by decide))
      |(simp at h5;omega)
  cases Jk with
  |cons w1 w2=>
    cases w2;cases w1 with
    |list ho xD=>exact⟨_,_,ns,rfl,rfl,ho,SV ns _ xD,iu⟩
theorem Vj (l:OpenLaw)(args:List WData):l.row.toRowW.claim.post args (.bool Â) args=Â :=
  postW_of (r:=l.row.toRowW) (X:=(Â==Â))
    (show WShape.has [] (.bool Â) .bool=Â by first|rfl|decide|simp[WShape.has,WShape.arms,WShape.armsAll])
    (show(WTm.eq .res (.lit (.bool Â))).value [] { args:=args,res:=some (.bool Â),after:=args }=U (.bool (Â==Â))from w_eq_bool (w_res rfl) w_lit) rfl
theorem attach_call {l:OpenLaw}{n:Nat}{q:eu}{loose:List Str}{XP:(Str->Option cj)->cM->Prop}{YP:dP->cM->Prop}{d:DefRec}
    (hn:l.most=U n) (E6:d.params.defaults=[])
    (call:∀(w:dP) (s₀ s₁:cE) (mg mb:Str->Option cj) (fa:cr) (o:iZ) (pm cd doc:cj) (a:cr) (vs:List cj) (ns:List Int),
      Ground q loose [] XP w s₀ mg mb s₁.heap->YP w s₁.heap ->
      s₁.heap.get? fa=U o->o.data=.func (docDef d.name d.params d.body d.scope pm cd doc)->s₁.heap.CodeRec cd d.name->mg d.name=U (.ref fa) ->
      s₁.heap.get? a=U { cls:=.type "list",data:=.seq vs.toArray }->IntsAre vs ns->ns.length<=n->s₁.gens = #[] ->
      pq (c8 l.prog w) tD (.call (.ref fa) ⟨[.ref a],[]⟩) (λr s'=>r=.ok (.ret (.bool Â))/\OldK s₁.heap s'.heap/\s'.os=s₁.os/\AllBare s'.gens) s₁) :
    WalkO q loose XP YP l.row.toRowW d [] (λf vs=>PySem.call f vs):=by
  intro w s₀ s₁ mg mb Ϙ Ϛ fa o pm cd doc dV kV ho hd kW hD hmg hg args vals J uN Rw hrd Jk hlo;obtain rfl:dV=.none:=Dflts.none hD E6;obtain rfl:kV=.none:=Dflts.noKw hD;obtain⟨a,vs,ns,rfl,rfl,De,AE,iu⟩:=Vi hn uN Jk;refine enter_call (tE (call w s₀ s₁ mg mb fa o pm cd doc a vs ns Ϙ Ϛ ho (fd_plain hd) kW hmg De AE iu hg) λr s' hq=>?_);obtain⟨rfl,h2,h3,h4⟩:=hq;exact⟨.inl ⟨.bool Â,.bool Â,[],rfl,λ_=>rfl,.bool Â,Vj l _,λ_=>⟨List.Pairwise.nil,λ_ hm=>(nomatch hm)⟩⟩,h2,h3,h4⟩
end Att
namespace L2
open PySem PySem.Spec PyProof.Rows
theorem Ni:∀{vs:List cj} {ns:List Int},IntsAre vs ns->dU (ns.map V.int) vs
 |_,_,.nil=>.nil
 |_,_,.cons n t h=>.cons ⟨t,rfl⟩ (Ni h)
def CW (H:Hp):Prop:=∀b,H b=L\/∃o xs,H b=U (.frz o (.lst xs))
variable {CX:Bf}{P:eu}{a:cr}{fd:cz}{sp:Sp}{x:Str}
theorem Wa {w:dP}{K:cm}{mg mb:Str->Option cj}{k:Nat}{fa:cr}{s₁:cE}{vs:List cj}{ns:List Int}
    (KX:K.In s₁.heap) (yA:s₁.heap.Ns dW mg) (hb:s₁.heap.Ns Cj mb) (Rh:∀x:Str,x≠"__name__"->mb x=d9 x) (IV:s₁.heap.NoLimit) (hg:s₁.gens = #[])
    (ha:s₁.heap.get? a=U { cls:=.type "list",data:=.seq vs.toArray }) (hi:IntsAre vs ns) (hl:ns.length<=sizeLine) (hr:fH k tD)
    (F:∀base:cM,K.In base->base.Ns dW mg->dL P w K mg base CX k fa fd [x] sp) (EZ:∀(s:cE) (u:cj),tw s fd ⟨[u],[]⟩ [(x,u)])
    (CB:∀H:Hp,CW H->ir K H a (ns.map V.int)->sp [.ref a] H (λv _=>v=.bl Â) λ_ _ _=>False)
    (Iz:∀H e s',CX [] H s₁ (λ_ _ _=>False) e s'->False) :
    pq (c8 P w) tD (.call (.ref fa) ⟨[.ref a],[]⟩) (λr s'=>r=.ok (.ret (.bool Â))/\OldK s₁.heap s'.heap/\s'.os=s₁.os/\AllBare s'.gens) s₁:=by
  have rv:=Ni hi;have Ju:=hi.length;have core:∀H:Hp,CW H->ir K H a (ns.map V.int)->pX P w H s₁.heap->(∀b,H b≠L->b=a)->(H a≠L->K.lookup a=L) ->
      pq (c8 P w) tD (.call (.ref fa) ⟨[.ref a],[]⟩) (λr s'=>r=.ok (.ret (.bool Â))/\OldK s₁.heap s'.heap/\s'.os=s₁.os/\AllBare s'.gens) s₁:=by
    intro H hO hS hok hA hK;have xW:∀{b:cr} {o:iZ},s₁.heap.get? b=U o->H b=L->(uM s₁.heap H).get? b=U o:=λe n=>Wq e n;have FD:∀{b:cr} {o:iZ} {es:Array DictEntry} {ep:Nat},s₁.heap.get? b=U o->o.data=.dict es ep->H b=L:=λ{b o es ep} e d=>by
      cases q:H b with
      |none=>rfl
      |some u=>have e':b=a:=hA b (by rw[q];simp);subst e';rw[ha]at e;cases e;have d':zZ.seq vs.toArray _=zZ.dict es ep:=d;cases d'
    have G4:∀{b:cr} {m:Str->Option cj},s₁.heap.Ns b m->(uM s₁.heap H).Ns b m:=λ{b m} ⟨o,es,ep,e,d,r⟩=>⟨o,es,ep,xW e (FD e d),d,r⟩;have LX:K.In (uM s₁.heap H):=λb o e=>xW (KX b o e) (by
      cases q:H b with
      |none=>rfl
      |some u=>have e':b=a:=hA b (by rw[q];simp);subst e';rw[hK (by rw[q];simp)]at e;cases e)
    have hM:Mod K mg (uM s₁.heap H):=⟨LX,G4 yA,⟨mb,G4 hb,Rh⟩,let⟨mc,h1,h2⟩:=IV;⟨mc,G4 h1,h2⟩⟩;have e0:wW P w K mg (uM s₁.heap H) tD [] s₁ H:=⟨rfl,hM,λb o e=>X7 e,qY (Vu _ _),trivial,λb hb=>absurd (show b∈([]:List cr)from hb) (by simp),hok,.of_eq hg⟩;refine tE ((F _ LX (G4 yA)).run tD [] s₁ H ⟨[.ref a],[]⟩ [.ref a] [.ref a] _ _ hr e0 (EZ s₁ (.ref a)) (.cons rfl .nil) (CB H hO hS)) λr s' h=>?_;cases r with
    |error e=>exact(Iz H e s' h).elim
    |ok fl=>
      cases fl with
      |next=>exact False.elim h
      |brk=>exact False.elim h
      |cont=>exact False.elim h
      |ret u=>
        obtain⟨v,H',os,bare,un,Jb,r',q⟩:=h;have q':v=.bl Â:=q;subst q';obtain rfl:u=cj.bool Â:=r';refine⟨rfl,OldK.of_keep λb o e=>?_,os,bare⟩;cases q:H b with
        |none=>exact un.keep b o e q (by intro z;exact absurd (show b∈([]:List cr)from z) (by simp)) (by simp)
        |some u=>
          rcases hO b with z|⟨ob,xs,z⟩
          · rw[q]at z;cases z
          · have z2:=un.frzs b ob _ z;obtain⟨e1,_⟩:=hok b _ z;obtain⟨e2,_⟩:=Jb b _ z2;rw[e]at e1;cases e1;exact e2
  cases hk:K.lookup a with
  |some o=>have e:=KX a o hk;rw[ha]at e;cases e;refine core (λ_=>L) (λ_=>.inl rfl) (.inr ⟨_,vs.toArray,_,hk,rfl,rfl,rfl,by rw[cU,Ju];exact hl,by simpa using rv⟩) (λb u z=>by have z':(L:Option HO)=U u:=z;cases z') (λb z=>absurd rfl z) λz=>absurd rfl z
  |none=>
    refine core (λb=>if b=a then U (.frz { cls:=.type "list",data:=.seq vs.toArray } (.lst (ns.map V.int)))else L) (λb=>?_) (.inl (.inr ⟨{ cls:=.type "list",data:=.seq vs.toArray },if_pos rfl⟩)) (λb u z=>?_) (λb z=>?_) λ_=>hk
    · by_cases hb:b=a
      · exact .inr ⟨_,_,if_pos hb⟩
      · exact .inl (if_neg hb)
    · by_cases hb:b=a
      · have z':=(if_pos hb).symm.trans z;cases z';subst hb;exact⟨ha,by rw[cA];exact hl,vs,_,rv,ha⟩
      · have z':=(if_neg hb).symm.trans z;cases z'
    · by_cases hb:b=a
      · exact hb
      · exact absurd (if_neg hb) z
variable {n:Nat}
theorem Ă {l:rj}{k:Nat}{q:eu}{loose:List Str}{XP:(Str->Option cj)->cM->Prop}{YP:dP->cM->Prop}{d:DefRec}{K:Params->cm}{CX:dP->Bf}{sp:dP->Sp}
  (hn:l.most=U n) (yZ:n<=sizeLine) (E6:d.params.defaults=[]) (hr:fH k tD)
  (hY:∀(w:dP) (h:cM),YP w h->(K w.params).In h)
  (F:∀(w:dP) (mg:Str->Option cj) (fa:cr) (h:cM),(K w.params).In h->h.Ns dW mg->mg d.name=U (.ref fa) ->
   ∃fd:cz,(∀(s:cE) (u:cj),tw s fd ⟨[u],[]⟩ [(x,u)]) /\
    ∀base:cM,(K w.params).In base->base.Ns dW mg->dL l.prog w (K w.params) mg base (CX w) k fa fd [x] (sp w))
  (CB:∀(w:dP) (H:Hp) (a:cr) (ns:List Int),ns.length<=n->CW H->ir (K w.params) H a (ns.map V.int)->sp w [.ref a] H (λv _=>v=.bl Â) λ_ _ _=>False)
  (Iz:∀(w:dP) (H:Hp) (s:cE) (e:cj) (s':cE),CX w [] H s (λ_ _ _=>False) e s'->False) :
  Ak q loose XP YP l.row.toRowW d [] (λf vs=>PySem.call f vs):=by
 refine Att.attach_call hn E6 λw s₀ s₁ mg mb fa o pm cd doc a vs ns Ϙ Ϛ ho hd kW hmg De AE iu hg=>?_;have KX:=hY w _ Ϛ;obtain⟨fd,hb,hF⟩:=F w mg fa _ KX Ϙ.T.g hmg;exact Wa KX Ϙ.T.g Ϙ.T.b Ϙ.T.builtins Ϙ.T.nolimit hg De AE (d8 iu yZ) hr hF hb (λH hO hS=>CB w H a ns iu hO hS) λH e s'=>Iz w H s₁ e s'
noncomputable def à (s:dS)(j:Nat):dS:=match s with
 |.ClassDef _ _ _ body _ _ _ _ _ _ _=>body.getD j (.Pass ⟨0,0,0,0⟩)
 |_=>.Pass ⟨0,0,0,0⟩
noncomputable def lE (s:dS):Arguments:=match s with
  |.FunctionDef _ a _ _ _ _ _ _ _ _=>a
  |_=>{ posonlyargs:=[],args:=[],vararg:=none,kwonlyargs:=[],kw_defaults:=[],kwarg:=none,defaults:=[] }
noncomputable def gP (s:dS):List dS:=match s with
 |.FunctionDef _ _ b _ _ _ _ _ _ _=>b
 |_=>[]
noncomputable def dI (s:dS):qI:=match s with
  |.FunctionDef _ _ _ _ _ _ sc _ _ _=>sc
  |_=>{ kind:=.function,names:=[],isGenerator:=false,isCoroutine:=false }
abbrev fJ:Bf:=λ_ _ _ _ _ _=>False
abbrev E0:XK:=λ_ _ _=>False
variable {X:Cx}
theorem oK:mL fJ X E0:=λ_ _ _ _ _ _ _ h=>h.elim
theorem Lv {A:dQ}{k:Nat}(hr:fH k A):A.units+1<oR:=qF (Nat.add_le_add_left (by decide:1<=64) _) hr.units
theorem zP (h:n<=1000):n<sizeLine:=qF h (by decide)
def dJ (H H':Hp):Prop:=∀b o,H b=U o->H' b=U o
theorem dJ.refl (H:Hp):dJ H H:=λ_ _ h=>h
variable {H:Hp}
theorem dJ.trans {H1 H2:Hp}(a:dJ H H1)(b:dJ H1 H2):dJ H H2:=λc o h=>b c o (a c o h)
variable {H':Hp}
theorem dJ.free (e:dJ H H'){l:cr}(h:H' l=Option.none):H l=Option.none:=by
 cases q:H l with
 |none=>rfl
 |some o=>rw[e l o q]at h;cases h
variable {xs:List V}
theorem dJ.seq {K:cm}(e:dJ H H')(h:ir K H a xs):ir K H' a xs:=by
 rcases h with(h|⟨o,h⟩)|h
 ·exact .inl (.inl (e _ _ h))
 ·exact .inl (.inr ⟨o,e _ _ h⟩)
 ·exact .inr h
def Qr (a ϛ:cr)(dx tb:Option cr)(h:cM):Prop :=
  ∃a0,h.get? a=U { cls:=.ref ϛ,dict:=dx,data:=.fields #[a0,tb.elim cj.none .ref,.none,.none,.bool Ã,.none] }
noncomputable abbrev MM (a ϛ:cr)(dx tb:Option cr):HO:=.ext (Qr a ϛ dx tb)
variable {ϛ:cr}{ϖ:Model}{cn:List (cr×iZ)}{s:cE}{M:St}
abbrev GK:=St->cr->Hp->Prop
variable {fQ p pos:oj}{S:List cj}{mQ:List V}{e o:Expr}{es:List Expr}{f:cr}{m:Str}{ps:List Str}{ta:TE}
variable {R:Result->cE->Prop}{ab:Bool}{bm sub:List cj}{col:Option Bool}{dd:Option cr}{h:cM}{k0 k1 k2 k3 k5:Option cj}{nm q:Str}{sn:List Str}
variable {E:cj->cE->Prop}
variable {name:Str}
variable {te:TE}
variable {κ:Type}{u:cj}{vs:List (κ×cj)}{y:V}
section
variable [DecidableEq κ]
noncomputable def nN (eG:List (κ×V))(k:κ):Option V:=(eG.find? λkv=>decide (kv.1=k)).map (·.2)
noncomputable def ê (eG:List (κ×V))(k:κ)(v:V):List (κ×V) :=
 if(eG.any λkv=>decide (kv.1=k))=Â then eG.map (λkv=>if kv.1=k then(kv.1,v)else kv)else eG++[(k,v)]
theorem Ks {p:κ×V}{r:List (κ×V)}{k:κ}(e:p.1=k):nN (p::r) k=U p.2:=by simp[nN,eI,e]
theorem Kt {p:κ×V}{r:List (κ×V)}{k:κ}(e:¬p.1=k):nN (p::r) k=nN r k:=by simp[nN,eI,e]
theorem NV (k:κ):∀eG:List (κ×V),(eG.any λkv=>decide (kv.1=k))=(nN eG k).isSome
 |[]=>rfl
 |p::r=>by
  rw[iA];by_cases e:p.1=k
  ·simp only[Ks e,decide_eq_true e,Bool.true_or,Option.isSome_some]
  ·rw[Kt e,decide_eq_false e,Bool.false_or];exact NV k r
theorem MT (eG:List (κ×V))(k:κ)(v:V):(ê eG k v).length<=eG.length+1:=by
 unfold ê;split
 ·rw[cA];omega
 ·rw[cV,cB,A7];omega
theorem o9.isSome_eq {o:Option V}{u:Option cj}(r:o9 o u):o.isSome=u.isSome:=by
 cases o with
 |none=>cases u with
  |none=>rfl
  |some _=>exact(show False from r).elim
 |some _=>cases u with
  |none=>exact(show False from r).elim
  |some _=>rfl
theorem o9.getD {o:Option V}{u:Option cj}{d:V}{d':cj}(r:o9 o u)(rd:Í d d'):Í (o.getD d) (u.getD d'):=by
 cases o with
 |none=>cases u with
  |none=>exact rd
  |some _=>exact(show False from r).elim
 |some _=>cases u with
  |none=>exact(show False from r).elim
  |some _=>exact r
theorem KV.val {eG:List (κ×V)}(r:KV eG vs)(k:κ):o9 (nN eG k) (vI vs k):=by
 unfold KV at r;induction r with
 |nil=>exact True.intro
 |@cons p q ps qs h t ih=>
  obtain⟨h1,h2⟩:=h;by_cases e:p.1=k
  ·have e':q.1=k:=h1.symm.trans e;have b:vI (q::qs) k=U q.2:=by simp[vI,eI,e']
   rw[Ks e,b];exact h2
  ·have e':¬q.1=k:=λz=>e (h1.trans z);have b:vI (q::qs) k=vI qs k:=by simp[vI,eI,e']
   rw[Kt e,b];exact ih
theorem KV.any {eG:List (κ×V)}(r:KV eG vs)(k:κ):(eG.any λkv=>decide (kv.1=k))=vs.any λkv=>decide (kv.1=k):=by
 unfold KV at r;induction r with
 |nil=>rfl
 |cons h t ih=>rw[iA,iA,ih,h.1]
theorem KV.repl {eG:List (κ×V)}(r:KV eG vs)(k:κ)(ry:Í y u) :
  KV (eG.map λkv=>if kv.1=k then(kv.1,y)else kv) (vs.map λkv=>if kv.1=k then(kv.1,u)else kv):=by
 unfold KV at r ⊢;induction r with
 |nil=>exact .nil
 |@cons p q ps qs h t ih=>
  rw[cL,cL];refine .cons ?_ ih;obtain⟨h1,h2⟩:=h;by_cases e:p.1=k
  ·rw[if_pos e,if_pos (h1.symm.trans e)];exact⟨h1,ry⟩
  ·rw[if_neg e,if_neg (λz=>e (h1.trans z))];exact⟨h1,h2⟩
theorem KV.put {eG:List (κ×V)}(r:KV eG vs)(k:κ)(ry:Í y u):KV (ê eG k y) (stored vs k u):=by
 unfold ê stored;rw[r.any k];by_cases e:(vs.any λkv=>decide (kv.1=k))=Â
 ·rw[if_pos e,if_pos e];exact r.repl k ry
 ·rw[if_neg e,if_neg e];exact Paired.snoc r ⟨rfl,ry⟩
theorem KV.length {eG:List (κ×V)}(r:KV eG vs):eG.length=vs.length:=Paired.length r
end
theorem HV {w:dP}{k:i6}(r:Í (kV k) u):(ik P w).is k u=Â:=by
 cases k with
 |inl i=>obtain⟨t,e⟩:=(show∃t,u=cj.int i t from r);subst e;exact Uw P w i t
 |inr x=>obtain⟨t,e⟩:=(show∃t,u=cj.str x t from r);subst e;exact Ux P w x t
theorem Nj {P:eu}{w:dP}:∀{ks:List i6} {us:List cj},dU (ks.map kV) us->ItemsAre (ik P w) ks us
 |[],_,r=>by rw[qM]at r;cases r;exact .nil
 |k::ks,_,r=>by
  rw[cL]at r;cases r with
  |cons h t=>exact .cons (HV h) (Nj t)
abbrev KT (H:Hp):List (List i6×V)->List (List i6×cr×cj)->Prop:=Paired λp q=>p.1=q.1/\H q.2.1=U (.tup (p.1.map kV))/\Í p.2 q.2.2
variable {eG:List (List i6×V)}
theorem KT.val {xs:List (List i6×cr×cj)}(r:KT H eG xs)(k:List i6):o9 (nN eG k) ((yO xs k).map (·.2)):=by
 induction r with
 |nil=>exact True.intro
 |@cons p q ps qs h t ih=>
  obtain⟨h1,_,h2⟩:=h;by_cases e:p.1=k
  ·have e':q.1=k:=h1.symm.trans e;have b:yO (q::qs) k=U q.2:=by simp[yO,eI,e']
   rw[Ks e,b];exact h2
  ·have e':¬q.1=k:=λz=>e (h1.trans z);have b:yO (q::qs) k=yO qs k:=by simp[yO,eI,e']
   rw[Kt e,b];exact ih
theorem KT.repl {xs:List (List i6×cr×cj)}(r:KT H eG xs)(k:List i6)(ry:Í y u) :
  KT H (eG.map λkv=>if kv.1=k then(kv.1,y)else kv) (xs.map (putAt k u)):=by
 induction r with
 |nil=>exact .nil
 |@cons p q ps qs h t ih=>
  rw[cL,cL];refine .cons ?_ ih;obtain⟨h1,h2,h3⟩:=h;unfold putAt;by_cases e:p.1=k
  ·rw[if_pos e,if_pos (h1.symm.trans e)];exact⟨h1,h2,ry⟩
  ·rw[if_neg e,if_neg (λz=>e (h1.trans z))];exact⟨h1,h2,h3⟩
variable {b:cr}
theorem KT.put {xs:List (List i6×cr×cj)}(r:KT H eG xs)(k:List i6)(hb:H b=U (.tup (k.map kV)))(ry:Í y u) :
  KT H (ê eG k y) (storedH xs k b u):=by
 have e:(eG.any λkv=>decide (kv.1=k))=(yO xs k).isSome:=by rw[NV,(r.val k).isSome_eq,xT]
 unfold ê storedH;rw[e];by_cases q:(yO xs k).isSome=Â
 ·rw[if_pos q,if_pos q];exact r.repl k ry
 ·rw[if_neg q,if_neg q];exact Paired.snoc r ⟨rfl,hb,ry⟩
theorem KT.keeps {xs:List (List i6×cr×cj)}(r:KT H eG xs)(ht:∀b ys,H b=U (.tup ys)->H' b=U (.tup ys)):KT H' eG xs :=
 Paired.mapP r λ_ _ z=>⟨z.1,ht _ _ z.2.1,z.2.2⟩
section
variable {w:dP}
theorem P6 {u:HO}(ok:pX P w H h)(e:Rd H a u):gO P w H h a u:=e.ok ok
theorem Gw {eG:List (i6×V)}(ok:pX P w H h)(e:Rd H a (.dK eG)):eG.length<=sizeLine/\(a==gc)=Ã/\∃vs,KV eG vs/\h.DictOf (ik P w) a vs :=
 show gO P w H h a (.dK eG)from P6 ok e
theorem ķ {eG:List (i6×V)}(ok:pX P w H h)(e:H a=U (.dK eG)):eG.length<=sizeLine/\(a==gc)=Ã/\∃vs,KV eG vs/\h.DictOf (ik P w) a vs:=Gw ok (.inl e)
theorem HG {ks:List i6}(ok:pX P w H h)(e:H a=U (.tup (ks.map kV))):(qO (ik P w)).is h ks a:=by obtain⟨_,dZ,r,o,h1,h2,n,h3⟩:=(show gO P w H h a (.tup (ks.map kV))from ok a _ e);exact⟨o,dZ.toArray,n,h1,h2,h3,by simpa using Nj r⟩
theorem HW (ok:pX P w H h)(e:Rd H a (.dT eG)):eG.length<=sizeLine/\(a==gc)=Ã /\
  ∃xs,KT H eG xs/\h.DictOfH (qO (ik P w)) a xs:=by
 obtain⟨z,y,xs,r,o,es,ep,h1,h2,h3,h4,h5⟩:=(show gO P w H h a (.dT eG)from P6 ok e);refine⟨z,y,xs,r,o,es,ep,h1,h2,h3,h4,λx hx=>?_,h5⟩;have all:∀{l:List (List i6×V)} {m:List (List i6×cr×cj)},KT H l m->∀x∈m,(qO (ik P w)).is h x.1 x.2.1:=by
  intro l m q;induction q with
  |nil=>intro x hx;exact nomatch hx
  |@cons p q ps qs hq t ih=>
   intro x hx;rcases cu.mp hx with e|hx
   ·subst e;exact HG ok (by rw[←hq.1];exact hq.2.1)
   ·exact ih x hx
 exact all r x hx
theorem Ķ (ok:pX P w H h)(e:H a=U (.dT eG)):eG.length<=sizeLine/\(a==gc)=Ã /\
  ∃xs,KT H eG xs/\h.DictOfH (qO (ik P w)) a xs:=HW ok (.inl e)
end
def vK (H:Hp)(a:cr)(y:V)(r:Option V):Prop :=
 (∃eG k,Rd H a (.dK eG)/\y=kV k/\r=nN eG k)\/∃eG k b,Rd H a (.dT eG)/\y=.ref b/\H b=U (.tup (k.map kV))/\r=nN eG k
def vM (H:Hp)(a:cr)(y v:V)(H':Hp):Prop :=
 (∃eG k,H a=U (.dK eG)/\y=kV k/\eG.length<sizeLine/\H'=upd H a (.dK (ê eG k v))) \/
 ∃eG k b,H a=U (.dT eG)/\y=.ref b/\H b=U (.tup (k.map kV))/\eG.length<sizeLine/\H'=upd H a (.dT (ê eG k v))
theorem vK.k {eG:List (i6×V)}{k:i6}(e:H a=U (.dK eG)):vK H a (kV k) (nN eG k):=.inl ⟨eG,k,.inl e,rfl,rfl⟩
variable {v:V}
theorem vM.k {eG:List (i6×V)}{k:i6}(e:H a=U (.dK eG))(hl:eG.length<sizeLine):vM H a (kV k) v (upd H a (.dK (ê eG k v))):=.inl ⟨eG,k,e,rfl,hl,rfl⟩
theorem vM.t {k:List i6}(e:H a=U (.dT eG))(eb:H b=U (.tup (k.map kV)))(hl:eG.length<sizeLine) :
  vM H a (.ref b) v (upd H a (.dT (ê eG k v))):=.inr ⟨eG,k,b,e,rfl,eb,hl,rfl⟩
variable {Q:cj->cE->Prop}{h':cM}{t':Nat}
section
variable {r:cj}{o:Option V}{A:dQ}
theorem Ë.big (I:Ë X cn M H s):gc<s.heap.objs.size:=by have h:dW<s.heap.objs.size:=(I.mod.glob.keeps I.bk).lt;exact Nat.lt_trans (by decide) h
theorem Iq (hu:A.units+1<oR)(I:Ë X cn M H s)(g:vK H a y o)(ry:Í y u)(h:∀s',Ë X cn M H s'->Q (.bool o.isSome) s') :
  cQ (c8 X.prog X.w) A (eh .In u (.ref a)) Q E s:=by
 rcases g with⟨eG,k,e,ey,l⟩|⟨eG,k,b,e,ey,eb,l⟩
 ·subst ey;obtain⟨z,hd,vs,rel,dd⟩:=Gw I.hok e;refine wpAny_in_of (HV ry) hd dd.mapOf ?_;rw[←(rel.val k).isSome_eq,←l];exact h _ (I.tok _)
 ·subst ey;cases(show u=cj.ref b from ry);obtain⟨z,hd,xs,rel,dd⟩:=HW I.hok e;refine wpAny_in_heap (sj hu) (HG I.hok eb) hd dd ?_;have q:=(rel.val k).isSome_eq;rw[xT]at q;rw[←q,←l];exact h _ (I.tok _)
theorem Oq {ob:HO}(I:Ë X cn M H s)(mu:EE (H a))(hs:ip a s.heap h')(he:∃q,h'.get? a=U q)(new:gO X.prog X.w (upd H a ob) h' a ob) :
  Ë X cn M (upd H a ob) { s with heap:=h',toks:=t' } :=
 I.write (x:=a) (e:=a) mu (.inl rfl) (λb q hb z=>(hs.2 b hb).trans z) he new
theorem xC {w:dP}{eG:List (i6×V)}{vs:List (i6×cj)}(z:eG.length<=sizeLine)(hd:(a==gc)=Ã)(rel:KV eG vs)(dd:h'.DictOf (ik P w) a vs) :
  gO P w H' h' a (.dK eG):=⟨z,hd,vs,rel,dd⟩
theorem Vk {Q:Unit->cE->Prop}(hu:A.units+1<oR)(I:Ë X cn M H s)(g:vM H a y v H')(ry:Í y u)(rv:Í v r)(h:∀s',Ë X cn M H' s'->Q () s') :
  cQ (c8 X.prog X.w) A (tG (.ref a) u r) Q E s:=by
 rcases g with⟨eG,k,e,ey,l,eH⟩|⟨eG,k,b,e,ey,eb,l,eH⟩
 ·subst ey eH;obtain⟨z,hd,vs,rel,dd⟩:=ķ I.hok e;have hz:vs.length<=sizeLine:=by rw[←rel.length];exact z
  have hl:(ê eG k v).length<=sizeLine:=by have:=MT eG k v;omega
  refine wpAny_setItem_pairs (hsz:=hz) (HV ry) dd λh' GH hs=>h _ ?_;have he:∃q,h'.get? a=U q:=let⟨q,_,_,hq,_⟩:=GH;⟨q,hq⟩;exact Oq I (by rw[e];exact True.intro) hs he (xC hl hd (rel.put k rv) GH)
 ·subst ey eH;cases(show u=cj.ref b from ry);obtain⟨z,hd,xs,rel,dd⟩:=Ķ I.hok e;have hz:xs.length<=sizeLine:=by rw[←Paired.length rel];exact z
  have hl:(ê eG k v).length<=sizeLine:=by have:=MT eG k v;omega
  refine wpAny_setItem_heap (hsz:=hz) (sj hu) (HG I.hok eb) dd λh' GH hs=>h _ ?_;obtain⟨q,es,ep,hq,h2,h3,h4,_,h5⟩:=GH;refine Oq I (by rw[e];exact True.intro) hs ⟨q,hq⟩ ⟨hl,hd,_,(rel.put k eb rv).keeps λc ys ec=>?_,q,es,ep,hq,h2,h3,h4,h5⟩;rw[zm (Ŀ ec e (λz=>nomatch z))];exact ec
end
section
variable {eG:List (i6×V)}{k:i6}{A:dQ}
theorem ŕ (I:Ë X cn M H s)(e:Rd H a (.dK eG))(h:∀t s',Ë X cn M H s'->Q (.int eG.length t) s'):cQ (c8 X.prog X.w) A (call (.builtin "len") [.ref a]) Q E s:=by obtain⟨z,hd,vs,rel,dd⟩:=Gw I.hok e;refine call_len_dict hd dd (by rw[←rel.length];rw[fu]at z;omega) ?_;rw[←rel.length];exact h _ _ (I.tok _)
end
def Ap (i:Expr):Prop:=∀ov iv,uJ i Ã ov iv=operate [ov,iv] (qN ov iv)
variable {T:String}{value:Expr}
theorem Ot {prog:eu}{w:dP}{A:dQ}{env:Env}{slice:Expr}{id:String}
  (hl:typeLookup (.type T) "__getitem__"=pure (U (.builtin id))) (hs:Ap slice)
  (h:cQ (c8 prog w) A (eF value env) (λo s₁=>cQ (c8 prog w) A (eF slice env) (λi s₂=>s₂.TypeIs o T/\cQ (c8 prog w) A (qN o i) Q E s₂) E s₁) E s) :
  cQ (c8 prog w) A (eF (.Subscript value slice pos) env) Q E s:=by
 refine Subscript_ (gh h (λo s₁ h₁=>gh h₁ (λi s₂ h₂=>?_) λ_ _ x=>x) λ_ _ x=>x);obtain⟨hT,h₂⟩:=h₂;unfold subscriptTail;refine cq ?_;rw[getitemInPython_of_ne hT.not_modules];refine cq (wpAny_specialOf hT hl ?_);have fin:cQ (c8 prog w) A (uJ slice Ã o i) (λr s₃=>cQ (c8 prog w) A (letTemporaryGo value o r >>= λ_=>pure r) Q E s₃) E s₂:=by rw[hs o i];exact wpAny_operating (gh h₂ (λr s₃ h₃=>cq (wpAny_letTemporaryGo (cP h₃))) λ_ _ x=>x)
 first
  |exact cP (cq fin)
  |exact cq (cP (cq fin))
  |exact cq fin
def JW (ty td:TE):TE:=λM H Q=>ty M H λy H1=>td M H1 λx H2=>∃a o,x=.ref a/\vK H2 a y o/\Q (.bl o.isSome) H2
def FV (td ty tv:TE):TS:=λD M H=>tv M H λv H1=>td M H1 λx H2=>ty M H2 λy H3=>∃a H4,x=.ref a/\vM H3 a y v H4/\D.nx M H4
variable {pos' mq:oj}{ty:TE}
section
variable {i:Expr}{td tv:TE}
theorem Β (hu:X.A.units+1<oR)(hi:PE X i ty)(ho:PE X o td):PC X .In i o (JW ty td):=by intro cn s M H Q I h;refine fX (hi cn s M H _ I h) λiv s1 ⟨y,H1,I1,ry,q1⟩=>fX (ho cn s1 M H1 _ I1 q1) λu s2 gK=>?_;obtain⟨x,H2,I2,rx,a,ov,ex,g,q2⟩:=gK;subst ex;obtain rfl:u=cj.ref a:=rx;exact Iq hu I2 g ry λs3 I3=>⟨.bl ov.isSome,H2,I3,rfl,q2⟩
theorem Yo (hu:X.A.units+1<oR)(ho:PE X o td)(hi:PE X i ty)(hv:PE X value tv)(hs:gQ value (U (.Subscript o i pos')) pos.line X.env=pure Ã) :
  PS X (.Assign [.Subscript o i pos'] value pos) (FV td ty tv):=by
 intro cn s M H D I h;refine wpAny_Assign_Subscript (fX (hv cn s M H _ I h) λr s1 ⟨v,H1,I1,rv,q1⟩=>fX (ho cn s1 M H1 _ I1 q1) λu s2 ⟨x,H2,I2,rx,q2⟩=>fX (hi cn s2 M H2 _ I2 q2) λiv s3 hq=>?_) hs;obtain⟨y,H3,I3,ry,a,H4,ex,g,q3⟩:=hq;subst ex;obtain rfl:u=cj.ref a:=rx;exact Vk hu I3 g ry rv λs4 I4=>⟨M,H4,I4,q3⟩
end
theorem Wb {w:dP}(h:cM)(hb:gc<h.objs.size):gO P w H (h.push { cls:=.type "dict",data:=.dict #[] }) h.objs.size (.dK []) :=
  ⟨gn _,beq_eq_false_iff_ne.mpr (Ne.symm (dg hb)),[],.nil,cM.DictOf.new h⟩
theorem Wc {w:dP}(h:cM)(hb:gc<h.objs.size):gO P w H (h.push { cls:=.type "dict",data:=.dict #[] }) h.objs.size (.dT []) :=
  ⟨gn _,beq_eq_false_iff_ne.mpr (Ne.symm (dg hb)),[],.nil,_,#[],0,dc _ rfl,⟨rfl,rfl,rfl⟩,rfl,rfl,dz⟩
def DA:TE:=λ_ H Q=>∀p,H p=L->Q (.ref p) (upd H p (.dK []))
def DB:TE:=λ_ H Q=>∀p,H p=L->Q (.ref p) (upd H p (.dT []))
theorem We:PE X (.Dict [] [] pos) DA:=λcn s M H Q I h=>wpAny_Dict_empty ⟨.ref s.heap.objs.size,_,I.laid (a:=s.heap.objs.size) (o:=.dK []) (t':=s.toks) (λ_ _ q=>cw _ q) (cH _) (Wb s.heap I.big),rfl,h _ (I.hok.fresh (cH _))⟩
theorem Wf:PE X (.Dict [] [] pos) DB:=λcn s M H Q I h=>wpAny_Dict_empty ⟨.ref s.heap.objs.size,_,I.laid (a:=s.heap.objs.size) (o:=.dT []) (t':=s.toks) (λ_ _ q=>cw _ q) (cH _) (Wc s.heap I.big),rfl,h _ (I.hok.fresh (cH _))⟩
structure M1 (X:Cx)(o:Expr)(m:Str)(fQ:oj)(e:Expr)(fN:oj):Prop where
 base:Ae X o m
 few:((jG fN (dD [e] X.env)).all (λx=>!x.1)&&(ku fN (gA [] X.env)).all (λx=>x.1.isSome)
  && decide (([e]:List Expr).length+([]:List Keyword).length+(if([]:List Keyword).isEmpty then 0 else 1)<30))=Â
 line:(fQ.endLine==fN.line)=Â
 trees:jG fN (dD [e] X.env)=[(Ã,eF e X.env)]
def GA (H:Hp)(a:cr):Prop:=(∃eG,Rd H a (.dK eG))\/∃eG,Rd H a (.dT eG)
theorem Α (I:Ë X cn M H s)(d:GA H a) :
  s.TypeIs (.ref a) "dict"/\(∀b,cj.ref a=.ref b->∃ob,s.heap.get? b=U ob/\ob.dict=L)/\(a==gc)=Ã:=by
 rcases d with⟨eG,e⟩|⟨eG,e⟩
 ·obtain⟨_,hd,vs,_,dd⟩:=Gw I.hok e;refine⟨dd.typeIs,λb q=>?_,hd⟩;cases q;obtain⟨ob,_,_,h1,h2,_⟩:=dd;exact⟨ob,h1,h2.2.1⟩
 ·obtain⟨_,hd,xs,_,dd⟩:=HW I.hok e;refine⟨dd.typeIs,λb q=>?_,hd⟩;cases q;obtain⟨ob,_,_,h1,h2,_⟩:=dd;exact⟨ob,h1,h2.2.1⟩
section
variable {d:V}{r:cj}{o:Option V}{A:dQ}
theorem ſ (hu:A.units+1<oR)(I:Ë X cn M H s)(g:vK H a y o)(ry:Í y u)(h:∀w' s',Ë X cn M H s'->Í (o.getD .non) w'->Q w' s') :
  cQ (c8 X.prog X.w) A (call (.builtin "dict.get") [.ref a,u]) Q E s:=by
 rcases g with⟨eG,k,e,ey,l⟩|⟨eG,k,b,e,ey,eb,l⟩
 ·subst ey;obtain⟨z,hd,vs,rel,dd⟩:=Gw I.hok e;refine call_meetsIn PySem.F.slot_dict_get dd.typeIs PySem.F.entry_dict_get (PySem.F.args_dict_get_2 _ _) (meets_dict_get (ik X.prog X.w) a (HV ry) hd) ⟨_,dd.mapOf,h _ _ (I.tok _) ?_⟩;rw[l];exact(rel.val k).getD rfl
 ·subst ey;cases(show u=cj.ref b from ry);obtain⟨z,hd,xs,rel,dd⟩:=HW I.hok e;refine call_meetsIn PySem.F.slot_dict_get dd.typeIs PySem.F.entry_dict_get (PySem.F.args_dict_get_2 _ _) (meetsH_dict_get (qO (ik X.prog X.w)) a b hd) ⟨sj hu,k,xs,HG I.hok eb,dd,h _ _ (I.tok _) ?_⟩;rw[l];exact(rel.val k).getD rfl
end
def Dz (td ty:TE):TE:=λM H Q=>td M H λx H1=>∃a,x=.ref a/\GA H1 a/\ty M H1 λy H2=>∃o,vK H2 a y o/\Q (o.getD .non) H2
section
variable {f:Expr}{fN:oj}{td tx:TE}
theorem WI (hu:X.A.units+1<oR)(ho:PE X o td)(he:PE X e ty)(m:M1 X o "get" fQ e fN):PE X (.Call (.Attribute o "get" fQ) [e] [] fN) (Dz td ty):=by intro cn s M H Q I h;refine wpAny_Call_method m.base m.few m.line PySem.F.plainAttrs_dict PySem.F.slot_dict_get PySem.F.type_dict_get (fX (ho cn s M H _ I h) λu s1 gK=>?_);obtain⟨x,H1,I1,rx,a,ex,d,q1⟩:=gK;subst ex;obtain rfl:u=cj.ref a:=rx;obtain⟨t1,t2,_⟩:=Α I1 d;refine⟨t1,t2,?_⟩;rw[m.trees];refine Calls.callWith_builtin rfl (Calls.evalArgs_plain (Calls.spliced_cons (fX (he cn s1 M H1 _ I1 q1) λiv s2 ⟨y,H2,I2,ry,ov,g,q2⟩=>Calls.spliced_nil ?_)));exact ſ hu I2 g ry λw' s3 I3 zN=>⟨_,H2,I3,zN,q2⟩
end
theorem VF:iW X (.builtin "len") (λxs H Q=>∃a eG,xs=[V.ref a]/\H a=U (.dK eG)/\Q (.int eG.length) H):=by intro cn s M H xs us Q I r h;obtain⟨a,eG,rfl,ha,q⟩:=h;obtain⟨u,rfl,ru⟩:=uE r;cases ru;exact ŕ I (.inl ha) λt s' I'=>⟨.int eG.length,H,I',⟨t,rfl⟩,q⟩
def Sz (n:Nat)(i:Int):Prop:=i.natAbs<2 ^ n
theorem Sz.bits {i:Int}(h:Sz n i):Builtin.Int.intBits i<=n:=by
 unfold Builtin.Int.intBits;by_cases h0:(i==0)=Â
 ·rw[if_pos h0];exact gn _
 ·rw[if_neg h0];have hi:i.natAbs≠0:=by
   have:i≠0:=by simpa using h0
   omega
  exact Nat.succ_le_of_lt ((pj hi).mpr h)
theorem Sz.log {i:Int}(h:Sz n i)(hn:0<n):i.natAbs.log2<n:=by
 by_cases hi:i.natAbs=0
 ·rw[hi];exact hn
 ·exact(pj hi).mpr h
theorem Sz.mono {m:Nat}{i:Int}(h:Sz n i)(hm:n<=m):Sz m i:=di h (lA (by decide) hm)
def t4 (i j:Int):Prop:=CT i j\/(Sz 100000 i/\Sz 100000 j)
theorem t4.ok {i j:Int}(h:t4 i j):IntMulOk i j:=by
 rcases h with h|h
 ·exact h.ok
 ·exact IntMulOk.of_bits (d8 h.1.bits (by decide)) (d8 h.2.bits (by decide))
theorem XX:li X (gI .Mult) (rI t4 λi j=>.int (i*j)):=D6 λ_ _ _ _ _ _ _ hc q=>mul_int q hc.ok
theorem WJ:li X (gI .FloorDiv) (rI (λ_ j=>j≠0/\Sz 9000 j) λi j=>.int (i.fdiv j)) :=
 D6 λ_ _ _ _ _ _ _ hc q=>floordiv_int hc.1 q (.inl (PyProof.noPylong_of_log2 (hc.2.log (by decide))))
theorem Í.bool_iff {x:V}{v:cj}{b:Bool}(r:Í x v):(v==cj.bool b)=decide (x=.bl b):=by
 cases x with
 |bl c=>
  cases(show v=cj.bool c from r);by_cases h:c=b
  ·subst h;simp
  ·have h1:¬V.bl c=V.bl b:=λz=>h (V.bl.inj z);rw[decide_eq_false h1];exact beq_eq_false_iff_ne.mpr λz=>h (by injection z)
 |non=>cases(show v=cj.none from r);rw[decide_eq_false (λz=>nomatch z)];exact beq_eq_false_iff_ne.mpr λz=>nomatch z
 |int i=>obtain⟨t,rfl⟩:=(show∃t,v=cj.int i t from r);rw[decide_eq_false (λz=>nomatch z)];exact beq_eq_false_iff_ne.mpr λz=>nomatch z
 |str i=>obtain⟨t,rfl⟩:=(show∃t,v=cj.str i t from r);rw[decide_eq_false (λz=>nomatch z)];exact beq_eq_false_iff_ne.mpr λz=>nomatch z
 |byt i=>obtain⟨t,rfl⟩:=(show∃t,v=cj.bytes i t from r);rw[decide_eq_false (λz=>nomatch z)];exact beq_eq_false_iff_ne.mpr λz=>nomatch z
 |flt i=>obtain⟨t,rfl⟩:=(show∃t,v=cj.float i t from r);rw[decide_eq_false (λz=>nomatch z)];exact beq_eq_false_iff_ne.mpr λz=>nomatch z
 |ref i=>cases(show v=cj.ref i from r);rw[decide_eq_false (λz=>nomatch z)];exact beq_eq_false_iff_ne.mpr λz=>nomatch z
 |ty i=>cases(show v=cj.type i from r);rw[decide_eq_false (λz=>nomatch z)];exact beq_eq_false_iff_ne.mpr λz=>nomatch z
theorem qd {x:V}{v:cj}{b:Bool}(r:Í x v):plainIs v (.bool b)=Â:=by
 cases x with
 |bl c=>cases(show v=cj.bool c from r);rfl
 |non=>cases(show v=cj.none from r);rfl
 |int i=>obtain⟨t,rfl⟩:=(show∃t,v=cj.int i t from r);rfl
 |str i=>obtain⟨t,rfl⟩:=(show∃t,v=cj.str i t from r);rfl
 |byt i=>obtain⟨t,rfl⟩:=(show∃t,v=cj.bytes i t from r);rfl
 |flt i=>obtain⟨t,rfl⟩:=(show∃t,v=cj.float i t from r);rfl
 |ref i=>cases(show v=cj.ref i from r);rfl
 |ty i=>cases(show v=cj.type i from r);rfl
theorem ž:li X (eh .Is) (λx y H Q=>∃b,y=.bl b/\Q (.bl (decide (x=.bl b))) H):=by intro cn s M H x y v u Q I rx ry h;obtain⟨b,rfl,q⟩:=h;cases ry;exact wpAny_is_plain (qd rx) (HK I q (Í.bool_iff rx).symm)
theorem VG:li X (eh .IsNot) (λx y H Q=>∃b,y=.bl b/\Q (.bl (!decide (x=.bl b))) H):=by intro cn s M H x y v u Q I rx ry h;obtain⟨b,rfl,q⟩:=h;cases ry;exact wpAny_isNot_plain (qd rx) (HK I q (by rw[Í.bool_iff rx]))
theorem WK:iW X (.builtin "isinstance") (λxs H Q=>∃x c t b,xs=[x,.ty c]/\pM X.K H x t/\gj X.K t (.type c)=U b/\Q (.bl b) H):=by intro cn s M H xs us Q I r h;obtain⟨x,c,t,b,rfl,ty,e,q⟩:=h;obtain⟨u,w',rfl,ru,zN⟩:=ú r;cases(show w'=cj.type c from zN);exact Nl I ru ty e λtk=>⟨.bl b,H,I.tok tk,rfl,q⟩
theorem VH:iW X (.builtin "isinstance") (λxs H Q=>∃x ϛ t b,xs=[x,.ref ϛ]/\pM X.K H x t/\gj X.K t (.ref ϛ)=U b/\Q (.bl b) H):=by intro cn s M H xs us Q I r h;obtain⟨x,c,t,b,rfl,ty,e,q⟩:=h;obtain⟨u,w',rfl,ru,zN⟩:=ú r;cases(show w'=cj.ref c from zN);exact Nl I ru ty e λtk=>⟨.bl b,H,I.tok tk,rfl,q⟩
mutual
inductive Dt (K:cm)(H:Hp):V->cX->Prop
 |non:Dt K H .non .none
 |bl (b:Bool):Dt K H (.bl b) (.bool b)
 |int (i:Int):Dt K H (.int i) (.int i)
 |str (x:Str):Dt K H (.str x) (.str x)
 |lst {a:cr} {xs:List V} {S:List cX}:ir K H a xs->ç K H xs S->Dt K H (.ref a) (.list S)
 |tup {a:cr} {xs:List V} {S:List cX}:nG K H a xs->ç K H xs S->Dt K H (.ref a) (.tuple S)
inductive ç (K:cm)(H:Hp):List V->List cX->Prop
 |nil:ç K H [] []
 |cons {v:V} {d:cX} {vs:List V} {S:List cX}:Dt K H v d->ç K H vs S->ç K H (v::vs) (d::S)
end
mutual
theorem Dt.reads (I:Ë X cn M H s):∀{v:V} {d:cX} {u:cj},Dt X.K H v d->Í v u->∃J,Reads s.heap u d J
 |_,_,_,.non,r=>by cases r;exact⟨_,.none⟩
 |_,_,_,.bl b,r=>by cases r;exact⟨_,.bool b⟩
 |_,_,_,.int i,r=>by obtain⟨t,rfl⟩:=r;exact⟨_,.int i t⟩
 |_,_,_,.str x,r=>by obtain⟨t,rfl⟩:=r;exact⟨_,.str x t⟩
 |_,_,_,.lst hq S,r=>by obtain⟨dZ,rv,⟨o,n,e,c,_,dd⟩,_⟩:=I.list hq;obtain⟨J,ra⟩:=ç.reads I S rv;cases r;exact⟨_,.list e c dd (by simpa using ra)⟩
 |_,_,_,.tup hq S,r=>by obtain⟨dZ,rv,⟨o,e,c,n,dd⟩,_⟩:=I.tuple hq;obtain⟨J,ra⟩:=ç.reads I S rv;cases r;exact⟨_,.tuple e c dd (by simpa using ra)⟩
theorem ç.reads (I:Ë X cn M H s):∀{vs:List V} {S:List cX} {us:List cj},ç X.K H vs S->dU vs us->∃J,ReadsAll s.heap us S J
 |_,_,_,.nil,r=>by cases r;exact⟨_,.nil⟩
 |_,_,_,.cons h t,r=>by
  cases r with
  |cons p q=>obtain⟨J,ra⟩:=Dt.reads I h p;obtain⟨bs,rb⟩:=ç.reads I t q;exact⟨_,.cons ra rb⟩
end
def Dr (K:cm)(neg:Bool):R2:=λx y H Q=>∃d e,Dt K H x d/\Dt K H y e/\d.canLay0=Â/\e.canLay0=Â/\min d.depth e.depth<=60/\Q (.bl (if neg then !cX.eqv d e else cX.eqv d e)) H
theorem Pw (hu:X.A.units+64<oR):li X (eh .Eq) (Dr X.K Ã):=by intro cn s M H x y v u Q I rx ry h;obtain⟨d,e,hd,he,c1,c2,dp,q⟩:=h;obtain⟨J,ra⟩:=hd.reads I rx;obtain⟨bs,rb⟩:=he.reads I ry;exact SeqAt.compareEq_reads ra rb c1 c2 (by omega) ⟨.bl _,H,I,rfl,q⟩
theorem Ee (hu:X.A.units+64<oR):li X (eh .NotEq) (Dr X.K Â):=by intro cn s M H x y v u Q I rx ry h;obtain⟨d,e,hd,he,c1,c2,dp,q⟩:=h;obtain⟨J,ra⟩:=hd.reads I rx;obtain⟨bs,rb⟩:=he.reads I ry;exact SeqAt.compareNe_reads ra rb c1 c2 (by omega) ⟨.bl _,H,I,rfl,q⟩
theorem wg {p:cr}(h:H p=L)(o:HO):dJ H (upd H p o):=λb u q=>by rw[zm (zu q h)];exact q
theorem fH.u64 {k:Nat}{A:dQ}(r:fH k A):A.units+64<oR:=r.units
theorem ö (h:n<=1000):n<=sizeLine:=oi (zP h)
section
open PySem
theorem wj:d9 "int"=U (.type "int"):=by decide +kernel
theorem w6:d9 "str"=U (.type "str"):=by decide +kernel
theorem XY:d9 "bool"=U (.type "bool"):=by decide +kernel
theorem Hu:d9 "list"=U (.type "list"):=by decide +kernel
theorem Ž:d9 "len"=U (.builtin "len"):=by decide +kernel
theorem Ef:d9 "max"=U (.builtin "max"):=by decide +kernel
theorem uz:d9 "isinstance"=U (.builtin "isinstance"):=by decide +kernel
theorem DI:d9 "all"=U (.builtin "all"):=by decide +kernel
end
variable {pz iter:Expr}{ifs:List Expr}{scope:qI}
section
variable {prog:eu}{w:dP}{A:dQ}
theorem TV {target:Expr}{it mn:cj}{env:Env}(I:Nat->cE->Prop)
  (xO:∀n s,I n s->cQ (c8 prog w) A (pyNext it) (λr s₁=>match r with
   |none=>R (.ok .next) s₁
   |some v=>cQ (c8 prog w) A (mr target it v) (λ_ MB=>cQ (c8 prog w) A (lK target env v) (λ_ s₂=>
     cQ (c8 prog w) A (forIn ifs Â λc r=>if r=Â then do let ok ← wJ c env (eF c env);pure (ForInStep.yield ok)else pure (ForInStep.yield r)) (λok s₃=>
      if ok=Â then cQ (c8 prog w) A (eF pz env) (λx s₄=>cQ (c8 prog w) A (call (.builtin "list.append") [mn,x]) (λ_ s₅=>∃m,m<n/\I m s₅) (λ_ _=>False) s₄) (λ_ _=>False) s₃
      else∃m,m<n/\I m s₃) (λ_ _=>False) s₂) (λ_ _=>False) MB) (λ_ _=>False) s₁) (λ_ _=>False) s)
  (n:Nat) (h:I n s) :
  pq (c8 prog w) A (.compLoop (.ListComp pz [⟨target,iter,ifs,0⟩] scope pos) 0 it mn env) R s:=by
 have up:∀{α:Type} {m:Ci α} {Q:α->cE->Prop} {E:cj->cE->Prop} {s:cE},cQ (c8 prog w) A m Q (λ_ _=>False) s->cQ (c8 prog w) A m Q E s:=λh=>gh h (λ_ _ q=>q) λ_ _ f=>f.elim;refine codeAny_loop rfl I (λn s hI=>?_) n h;show cQ _ A ((compTurn (.ListComp pz [⟨target,iter,ifs,0⟩] scope pos) 0 it mn env).onRaise (λx=>do noteFrame x env;theTreesLotGoes x)) _ _ s;refine wpAny_noted ?_;rw[compTurn_list];refine cq (rS (cq (gh (up (xO n s hI)) (λr s₁ h₁=>?_) λ_ _ h'=>h')));cases r with
 |none=>exact cP h₁
 |some v=>
  refine cq (gh (up h₁) (λ_ MB RV=>?_) λ_ _ h'=>h');refine cq (gh (up RV) (λ_ s₂ h₂=>cq (gh (up h₂) (λok s₃ h₃=>?_) λ_ _ h'=>h')) λ_ _ h'=>h');cases ok with
  |false=>exact cP ⟨rfl,h₃⟩
  |true=>exact cq (cq (gh (up h₃) (λx s₄ h₄=>cq (gh (up h₄) (λ_ s₅ h₅=>cP (cP ⟨rfl,h₅⟩)) λ_ _ h'=>h')) λ_ _ h'=>h'))
end
theorem jm {env:Env}:∀(names:List (Str×dq)) (mn:List (Str×cr)),(∀x∈names,x.2=.free->∃c,env.cells.lookup x.1=U c)->(∀y c,mn.lookup y=U c->env.cells.lookup y=U c) ->
  ∃cl,(forIn names mn λ(x:Str×dq) (cs:List (Str×cr))=>if(x.2==dq.free)=Â then do let a ← cellOf env x.1;pure (ForInStep.yield ((x.1,a)::cs))else pure (ForInStep.yield cs):Ci (List (Str×cr)))=pure cl /\
   (∀y c,cl.lookup y=U c->env.cells.lookup y=U c)/\(∀x∈names,x.2=.free->∃c,cl.lookup x.1=U c)/\∀y c,mn.lookup y=U c->∃c',cl.lookup y=U c'
 |[],mn,_,ha=>⟨mn,rfl,ha,λ_ h=>(nomatch h),λy c h=>⟨c,h⟩⟩
 |(n,k)::r,mn,hn,ha=>by
  by_cases hk:k=.free
  ·subst hk;obtain⟨c,hc⟩:=hn (n,.free) cg rfl;have e1:cellOf env n=pure c:=by unfold cellOf;rw[hc]
   have GS:∀y d,((n,c)::mn).lookup y=U d->env.cells.lookup y=U d:=λy d h=>by
    rw[cZ]at h;cases hy:y==n with
    |true=>rw[hy]at h;have:y=n:=eq_of_beq hy;subst this;cases h;exact hc
    |false=>rw[hy]at h;exact ha y d h
   obtain⟨cl,h1,h2,h3,h4⟩:=jm r ((n,c)::mn) (λx hx=>hn x (ck _ hx)) GS;refine⟨cl,?_,h2,?_,?_⟩
   ·rw[lD];simp only[beq_self_eq_true,if_true,e1,pure_bind];exact h1
   ·intro x hx hf;rcases cu.mp hx with rfl|hx
    ·exact h4 n c (by rw[cZ,beq_self_eq_true])
    ·exact h3 x hx hf
   ·intro y d hy;cases hb:y==n with
    |true=>exact h4 y c (by rw[cZ,hb])
    |false=>exact h4 y d (by rw[cZ,hb];exact hy)
  ·have hb:(k==dq.free)=Ã:=by simpa using hk
   obtain⟨cl,h1,h2,h3,h4⟩:=jm r mn (λx hx=>hn x (ck _ hx)) ha;refine⟨cl,?_,h2,?_,h4⟩
   ·rw[lD];simp only[hb,gq,if_false,pure_bind];exact h1
   ·intro x hx hf;rcases cu.mp hx with rfl|hx
    ·exact absurd hf hk
    ·exact h3 x hx hf
theorem Hv (n:Nat)(a:Str)(r:List (Str×dq))(mn:List (Str×cr)):cellsFrom n ((a,.cell)::r) mn=cellsFrom (n+1) r ((a,n)::mn):=rfl
theorem HH {k:dq}(hk:k≠.cell)(n:Nat)(a:Str)(r:List (Str×dq))(mn:List (Str×cr)):cellsFrom n ((a,k)::r) mn=cellsFrom n r mn:=by cases k<;>first|rfl|exact absurd rfl hk
noncomputable def oJ (names:List (Str×dq)):Nat:=(names.filter λy=>y.2==dq.cell).length
theorem KY (a:Str)(r:List (Str×dq)):oJ ((a,.cell)::r)=oJ r+1:=by unfold oJ;rw[uW (by rfl),cB]
theorem Px {k:dq}(hk:k≠.cell)(a:Str)(r:List (Str×dq)):oJ ((a,k)::r)=oJ r:=by unfold oJ;rw[uV (by simpa using hk)]
theorem Ey:∀(names:List (Str×dq)) (n:Nat) (mn:List (Str×cr)) {x:Str} {c:Nat},(cellsFrom n names mn).lookup x=U c->(n<=c/\c<n+oJ names/\(x,dq.cell)∈names)\/(mn.lookup x=U c/\(x,dq.cell)∉names)
 |[],_,_,_,_,h=>.inr ⟨h,by simp⟩
 |(a,k)::r,n,mn,x,c,h=>by
  by_cases hk:k=.cell
  ·subst hk;rw[Hv]at h;rcases Ey r (n+1) _ h with⟨h1,h2,h3⟩|⟨h1,h2⟩
   ·refine .inl ⟨by omega,?_,ck _ h3⟩;rw[KY];omega
   ·rw[cZ]at h1;cases hx:x==a with
    |true=>rw[hx]at h1;cases h1;refine .inl ⟨cH _,?_,by rw[eq_of_beq hx];exact cg⟩;rw[KY];omega
    |false=>
     rw[hx]at h1;refine .inr ⟨h1,λz=>?_⟩;rcases cu.mp z with z|z
     ·cases z;simp at hx
     ·exact h2 z
  ·rw[HH hk]at h;have hf:=Px hk a r;rw[hf];rcases Ey r n _ h with⟨h1,h2,h3⟩|⟨h1,h2⟩
   ·exact .inl ⟨h1,h2,ck _ h3⟩
   ·refine .inr ⟨h1,λz=>?_⟩;rcases cu.mp z with z|z
    ·cases z;exact hk rfl
    ·exact h2 z
theorem Li:∀(names:List (Str×dq)) (n:Nat) (mn:List (Str×cr)) {x:Str},(x,dq.cell)∉names->(cellsFrom n names mn).lookup x=mn.lookup x
 |[],_,_,_,_=>rfl
 |(a,k)::r,n,mn,x,h=>by
  have hr:(x,dq.cell)∉r:=λz=>h (ck _ z);by_cases hk:k=.cell
  ·subst hk;rw[Hv,Li r _ _ hr,cZ];cases hx:x==a with
   |true=>exact absurd (by rw[eq_of_beq hx];exact cg) h
   |false=>rfl
  ·rw[HH hk,Li r _ _ hr]
theorem Lj:∀(names:List (Str×dq)) (n:Nat) (mn:List (Str×cr)),(∀x y c,mn.lookup x=U c->mn.lookup y=U c->x=y)->(∀x c,mn.lookup x=U c->c<n)->∀x y c,(cellsFrom n names mn).lookup x=U c->(cellsFrom n names mn).lookup y=U c->x=y
 |[],_,_,h,_=>h
 |(a,k)::r,n,mn,h,hb=>by
  by_cases hk:k=.cell
  ·subst hk;rw[Hv];refine Lj r (n+1) _ (λx y c e e'=>?_) λx c e=>?_
   ·rw[cZ]at e e';cases hx:x==a with
    |true=>
     rw[hx]at e;cases e;cases hy:y==a with
     |true=>rw[eq_of_beq hx,eq_of_beq hy]
     |false=>rw[hy]at e';exact absurd (hb _ _ e') (iD _)
    |false=>
     rw[hx]at e;cases hy:y==a with
     |true=>rw[hy]at e';cases e';exact absurd (hb _ _ e) (iD _)
     |false=>rw[hy]at e';exact h x y c e e'
   ·rw[cZ]at e;cases hx:x==a with
    |true=>rw[hx]at e;cases e;exact nP _
    |false=>rw[hx]at e;exact mX (hb _ _ e)
  ·rw[HH hk];exact Lj r n mn h hb
theorem jo {ϖ:Model}{A:dQ}{E:cj->cE->Prop}:∀(names:List (Str×dq)) (cells:List (Str×cr)) (s:cE) (Q:List (Str×cr)->cE->Prop),
    (∀h':cM,(∀b o,s.heap.get? b=U o->h'.get? b=U o)->(∀c,s.heap.objs.size<=c->c<s.heap.objs.size+oJ names->h'.IsCell c L)->Q (cellsFrom s.heap.objs.size names cells) { s with heap:=h' }) ->
    cQ ϖ A (forIn names cells λ(x:Str×dq) (cells:List (Str×cr))=>if(x.2==dq.cell)=Â then do let a ← alloc { cls:=cj.type "cell",data:=zZ.cell L };pure (ForInStep.yield ((x.1,a)::cells))else pure (ForInStep.yield cells)) Q E s
  |[],cells,s,Q,h=>by have:=h s.heap (λ_ _ e=>e) (λc h1 h2=>by rw[show oJ []=0 from rfl]at h2;omega);rw[o8];exact cP this
  |(a,k)::r,cells,s,Q,h=>by
    rw[lD];by_cases hk:k=.cell
    · subst hk;simp only[beq_self_eq_true,if_true,bind_assoc,pure_bind];refine cq (wpAny_alloc ?_);have ih:=jo (ϖ:=ϖ) (A:=A) (E:=E) r ((a,s.heap.objs.size)::cells) { s with heap:=s.heap.push { cls:=cj.type "cell",data:=zZ.cell L } } Q (λh' k1 k2=>by
        have hz:(s.heap.push { cls:=cj.type "cell",data:=zZ.cell L }).objs.size=s.heap.objs.size+1:=gu _ _;have:=h h' (λb o e=>k1 b o (cw _ e)) (λc h1 h2=>by
          rw[KY]at h2;by_cases hc:c=s.heap.objs.size
          · subst hc;exact⟨_,k1 _ _ (dc _ rfl),rfl⟩
          · exact k2 c (by show(s.heap.push _).objs.size<=c;rw[hz];omega) (by show c<(s.heap.push _).objs.size+_;rw[hz];omega))
        rw[Hv]at this;have e:(({ s with heap:=s.heap.push { cls:=cj.type "cell",data:=zZ.cell L } }:cE)).heap.objs.size=s.heap.objs.size+1:=hz;rw[e];exact this)
      exact ih
    · have hb:(k==dq.cell)=Ã:=by simpa using hk
      simp only[hb,gq,if_false,pure_bind];refine jo r cells s Q λh' k1 k2=>?_;have hf:=Px hk a r;have:=h h' k1 (by rw[hf];exact k2);rw[HH hk]at this;exact this
variable {qual:Str}
theorem TX {A:dQ}{globals:cr}{closure:List (Str×cr)}{code:cj}{out:Env}{builtins:cr}{Q:Env->cE->Prop}
    (h:∀h':cM,(∀b o,s.heap.get? b=U o->h'.get? b=U o)->h'.Ns s.heap.objs.size (λ_=>L)->(∀c,s.heap.objs.size+1<=c->c<s.heap.objs.size+1+oJ scope.names->h'.IsCell c L) ->
      Q (newEnv scope s.heap.objs.size globals (cellsFrom (s.heap.objs.size+1) scope.names closure) qual L code (U out) builtins) { s with heap:=h' }) :
    cQ ϖ A (wK scope globals closure [] qual L code (U out) builtins) Q E s:=by
  unfold wK;refine cq (wpAny_alloc ?_);have hz:(s.heap.push { cls:=cj.type "dict",data:=zZ.dict #[] }).objs.size=s.heap.objs.size+1:=gu _ _;refine cq (jo scope.names closure { s with heap:=s.heap.push { cls:=cj.type "dict",data:=zZ.dict #[] } } _ λh' k1 k2=>?_);have Bq:(({ s with heap:=s.heap.push { cls:=cj.type "dict",data:=zZ.dict #[] } }:cE)).heap.objs.size=s.heap.objs.size+1:=hz;rw[Bq]at k2 ⊢;dsimp only;rw[o8];refine cq (cP (cP ?_));exact h h' (λb o e=>k1 b o (cw _ e)) ((cM.Ns.new s.heap _).keeps k1) k2
noncomputable def nu (X:Cx)(scope:qI)(cl:List (Str×cr))(N:List Str)(ϛ:cr)(fp:List cr)(s₀:cE)(H₀:Hp):Cx :=
 { X with N:=N,s₀:=s₀,H₀:=H₀,env:=compEnvC scope cl ϛ X.env,outer:=X.stack,stack:=X.stack,ex:=fp,fn:=λx=>scope.names.lookup x==U .cell,pn:=[],xe:=λ_ _=>False }
structure oz (X:Cx)(scope:qI)(N:List Str)(own:Nat)(cap:List Nat):Prop where
 kind:scope.kind=.function
 cells:∀x∈scope.names,x.2=.cell->scope.names.lookup x.1=U .cell
 locs:∀x∈scope.names,x.2=.local->scope.names.lookup x.1=U .local
 free:∀x∈scope.names,x.2=.free->X.env.kindOf x.1=U .cell\/X.env.kindOf x.1=U .free
 len:N.length=own+cap.length
 caps:∀(j:Nat) (x:Str),N[own+j]?=U x->∃i,cap[j]?=U i/\X.N[i]?=U x/\(scope.names.lookup x=U .free)
variable {α:Type}
theorem ua {α β:Type}[BEq α][LawfulBEq α]{x:α}{y:β}:∀{l:List (α×β)},l.lookup x=U y->(x,y)∈l
 |[],h=>by simp at h
 |(a,b)::r,h=>by
  rw[cZ]at h;cases hb:x==a with
  |true=>rw[hb]at h;cases h;rw[eq_of_beq hb];exact cg
  |false=>rw[hb]at h;exact ck _ (ua h)
theorem qf {env:Env}{x:Str}:∀{names:List (Str×dq)},names.lookup x=U .free ->
  (names.map λ(n,k)=>if(k==dq.free&&env.scope.kind==.function&&env.kindOf n==U .cell)then(n,dq.cell)else(n,k)).lookup x=U .cell \/
  (names.map λ(n,k)=>if(k==dq.free&&env.scope.kind==.function&&env.kindOf n==U .cell)then(n,dq.cell)else(n,k)).lookup x=U .free
 |[],h=>by simp at h
 |(n,k)::r,h=>by
  rw[cZ]at h;rw[cL];cases hx:x==n with
  |true=>
   rw[hx]at h;cases h;by_cases hc:(dq.free==dq.free&&env.scope.kind==.function&&env.kindOf n==U .cell)=Â
   ·left;simp only[hc,if_true,cZ,hx]
   ·right;simp only[hc,if_false,cZ,hx,gq]
  |false=>
   rw[hx]at h;rcases qf (env:=env) h with q|q
   ·left;by_cases hc:(k==dq.free&&env.scope.kind==.function&&env.kindOf n==U .cell)=Â
    ·simp only[hc,if_true,cZ,hx];exact q
    ·simp only[hc,if_false,cZ,hx,gq];exact q
   ·right;by_cases hc:(k==dq.free&&env.scope.kind==.function&&env.kindOf n==U .cell)=Â
    ·simp only[hc,if_true,cZ,hx];exact q
    ·simp only[hc,if_false,cZ,hx,gq];exact q
theorem u0 {env:Env}{x:Str}:∀{names:List (Str×dq)},((names.map λ(n,k)=>if(k==dq.free&&env.scope.kind==.function&&env.kindOf n==U .cell)then(n,dq.cell)else(n,k)).lookup x=U .cell \/
  (names.map λ(n,k)=>if(k==dq.free&&env.scope.kind==.function&&env.kindOf n==U .cell)then(n,dq.cell)else(n,k)).lookup x=U .free)->(x,dq.free)∈names\/(x,dq.cell)∈names
 |[],h=>by simp at h
 |(n,k)::r,h=>by
  rw[cL]at h;cases hx:x==n with
  |true=>
   have e:x=n:=eq_of_beq hx;by_cases hc:(k==dq.free&&env.scope.kind==.function&&env.kindOf n==U .cell)=Â
   ·have:k=.free:=by rw[cY,cY]at hc;exact eq_of_beq hc.1.1
    left;rw[e,this];exact cg
   ·simp only[hc,if_false,cZ,hx,gq]at h;rcases h with h|h
    ·cases h;right;rw[e];exact cg
    ·cases h;left;rw[e];exact cg
  |false=>
   refine(u0 (env:=env) (names:=r) ?_).imp (ck _) (ck _);by_cases hc:(k==dq.free&&env.scope.kind==.function&&env.kindOf n==U .cell)=Â
   ·simpa only[hc,if_true,cZ,hx]using h
   ·simpa only[hc,if_false,cZ,hx,gq]using h
noncomputable def lQ (M:St)(cap:List Nat):St:=cap.map λi=>(M[i]?).join
variable {cap:List Nat}{i j:Nat}
theorem U1 (hj:cap[j]?=U i)(h:(lQ M cap)[j]?=U (U v)):M[i]?=U (U v):=by
 unfold lQ at h;rw[dm,hj]at h;cases e:M[i]? with
 |none=>rw[zY,e]at h;cases h
 |some o=>
  rw[zY,e]at h;cases o with
  |none=>cases h
  |some u=>exact h
variable {fp:List cr}
theorem VI {cl:List (Str×cr)}{N:List Str}{own:Nat}{h₁:cM}{m₀:Str->Option cj}(B:oz X scope N own cap)(I:Ë X cn M H s)
    (c1:∀y c,cl.lookup y=U c->X.env.cells.lookup y=U c) (c2:∀x∈scope.names,x.2=.free->∃c,cl.lookup x.1=U c)
    (hf:∀b∈fp,rT X cn H b) (Mb:∀b∈fp,b<s.heap.objs.size) (yA:h₁.Ns s.heap.objs.size m₀) (k:∀b o,s.heap.get? b=U o->h₁.get? b=U o)
    (xZ:∀c,s.heap.objs.size+1<=c->c<s.heap.objs.size+1+oJ scope.names->h₁.IsCell c L) :
    Ë (nu X scope (cellsFrom (s.heap.objs.size+1) scope.names cl) N s.heap.objs.size fp s H) [] (cy own L++lQ M cap) H { s with heap:=h₁,toks:=t' } :=
  have low:∀x c,cl.lookup x=U c->c<s.heap.objs.size:=λx c e=>by obtain⟨v,o,q,_⟩:=I.cell x c (c1 x c e);exact cF q
  { ok:={
      mod:=I.mod
      kind:=B.kind
      glob:=I.ok.glob
      blt:=I.ok.blt
      above:=cH _
      inj:=Lj _ _ _ (λx y c e e'=>I.ok.inj x y c (c1 x c e) (c1 y c e')) λx c e=>mX (low x c e)
      has:=λx hx=>by
        refine tP.mp (nq scope.names _ _ ?_);rcases u0 hx with q|q
        · right;obtain⟨c,e⟩:=c2 _ q rfl
          rw[e];rfl
        · exact .inl (B.cells _ q rfl)
      cab:=λx c e e'=>by
        have hx:scope.names.lookup x=U .cell:=eq_of_beq e;rcases Ey _ _ _ e' with⟨h1,_⟩|⟨_,h2⟩
        · exact qZ h1
        · exact absurd (ua hx) h2
      hd:=I.ok.hd
      frames:=I.ok.frames
      stk:=.inl rfl
      exf:=λb hb=>⟨dg (Mb b hb),λx c e=>by
        rcases Ey _ _ _ e with⟨h1,_⟩|⟨h1,_⟩
        · exactλz=>absurd (Mb b hb) (by rw[←z];exact Nat.not_lt.mpr (qZ h1))
        · exact(hf b hb).2.2.2.2.1 x c (c1 x c h1)⟩
      bs:=I.bs
      bsz:=d8 I.ok.bsz I.sz
      noex:=λb o e hb=>by
        rcases(hf b hb).2.2.2.1 with q|q
        · exact I.ok.noex b o e q
        · exact absurd (di (cF e) I.ok.bsz) (Nat.not_lt.mpr q)
      exfs:=λb hb hz=>by
        rcases cu.mp (I.stkSub b hz)with q|q
        · exact(hf b hb).2.1 q
        · exact(hf b hb).2.2.1 q
      funs:=I.stack
      frf:=I.stkFree }
    os:=rfl
    bare:=I.bare
    base:=Un.kept k
    loc:=by
      refine⟨m₀,yA,λi x v hN hσ hv=>?_⟩;by_cases hi:i<own
      · rw[fE (by rw[eS];exact hi),nz,if_pos hi]at hσ;cases hσ
      · obtain⟨j,rfl⟩:∃j,i=own+j:=⟨i-own,by omega⟩;obtain⟨i',e1,e2,e3⟩:=B.caps j x hN;rw[iM (by rw[eS];omega),eS,Nat.add_sub_cancel_left]at hσ;have Br:=U1 e1 hσ;have hk:=B.free (x,.free) (ua e3) rfl;obtain⟨m,hm,hl⟩:=I.loc;obtain⟨u,ru,hu⟩:=hl i' x v e2 Br (.inr hk);refine⟨u,ru,?_⟩;rcases hu with⟨q,_⟩|⟨_,c,hc,ic⟩
        · rcases hk with hk|hk
          · rw[hk]at q;cases q
          · rw[hk]at q;cases q
        · obtain⟨c',Cy⟩:=c2 (x,.free) (ua e3) rfl;have ec:=c1 x c' Cy;rw[hc]at ec;cases ec;have hn:(x,dq.cell)∉scope.names:=λz=>by have:=B.cells _ z rfl;rw[e3]at this;cases this
          exact .inr ⟨qf e3,c,by show(cellsFrom _ _ _).lookup x=_;rw[Li _ _ _ hn];exact Cy,ic.keeps k⟩
    cell:=λx c e=>by
      rcases Ey _ _ _ e with⟨h1,h2,_⟩|⟨h1,_⟩
      · exact⟨L,xZ c h1 h2⟩
      · obtain⟨v,q⟩:=I.cell x c (c1 x c h1);exact⟨v,q.keeps k⟩
    free:=I.hok.fresh (cH _)
    freeC:=λx c e=>by
      rcases Ey _ _ _ e with⟨h1,_⟩|⟨h1,_⟩
      · exact I.hok.fresh (qZ h1)
      · exact I.freeC x c (c1 x c h1)
    pin:=λp hp=>(nomatch hp)
    hok:=I.hok.kept k
    len:=by show(cy own L++lQ M cap).length=N.length;rw[cV,eS,B.len];unfold lQ;rw[cA] }
def B6:TT:=λ_ H Q=>Q Â H
def Cp (X:Cx)(ifs:List Expr)(t:TT):Prop :=
 ∀(cn:List (cr×iZ)) (s:cE) (M:St) (H:Hp) (Q:Bool->Hp->Prop),Ë X cn M H s->t M H Q ->
  cQ (c8 X.prog X.w) X.A (forIn ifs Â λc r=>if r=Â then do let ok ← wJ c X.env (eF c X.env);pure (ForInStep.yield ok)else pure (ForInStep.yield r)) (TP X cn M Q) X.xe s
theorem XZ:Cp X [] B6:=λ_ _ _ H _ I h=>wpAny_tests_nil ⟨H,I,h⟩
variable {c:Expr}
theorem X0 {t:TT}(h:PT X c t):Cp X [c] t:=λcn s M H Q I q=>wpAny_tests_one (h cn s M H Q I q)
def yI (wi:TI)(own:Nat)(cap:List Nat)(g:TG)(tt:TT)(te:TE):TE:=λM H Q=>wi M H λϗ H1=>∀D,H1 D=L->∃W:Nat->Nat->List V->Hp->Prop,(∃m,W 0 m [] (upd H1 D (.lst []))) /\
 ∀i m ys H2,W i m ys H2->H2 D=U (.lst ys)/\((ϗ.stop i H2/\Q (.ref D) H2)\/(ϗ.go i H2/\ys.length<sizeLine/\∀x H3,ϗ.yld i H2 x H3->g x (cy own L++lQ M cap) H3 λσ2 H4=>tt σ2 H4 λb H5=>if b=Â then te σ2 H5 λy H6=>H6 D=U (.lst ys)/\∃m',m'<m/\W (i+1) m' (ys++[y]) (upd H6 D (.lst (ys++[y])))else∃m',m'<m/\W (i+1) m' ys H5))
def kJ (own:Nat)(g:TG):Prop:=∀v M H Q,g v M H Q->g v M H λσ' H'=>Q σ' H'/\σ'.length = M.length/\∀i,own<=i->σ'[i]? = M[i]?
theorem U2 (i own:Nat)(h:i<own):kJ own (xY i):=λv M H Q q=>⟨q,by rw[iz],λj hj=>by rw[lc (by omega)]⟩
variable {g:TG}{tg:Expr}{tt:TT}{wi:TI}
theorem NL {QV:VK}{use:Option (cj->Ci Unit)}{Q0:cj->cE->Prop}{JJ:oj}{N:List Str}{own:Nat}{c:Prop}(B:oz X scope N own cap)(hc:c)(hi:EK X c tg iter wi)
    (kg:kJ own g)
    (hg:∀cl ϛ fp s₀ H₀,PG (nu X scope cl N ϛ fp s₀ H₀) tg g) (ht:∀cl ϛ fp s₀ H₀,Cp (nu X scope cl N ϛ fp s₀ H₀) ifs tt) (he:∀cl ϛ fp s₀ H₀,PE (nu X scope cl N ϛ fp s₀ H₀) pz te)
    (hs:Ao X iter) (I:Ë X cn M H s) (h:yI wi own cap g tt te M H QV)
    (fin:∀(D ϛ:cr) (H5:Hp) (s6:cE) (r:Flow),QV (.ref D) H5->Ë X cn M H5 s6->rT X cn H5 ϛ->(∃m,s6.heap.Ns ϛ m)->compPost (c8 X.prog X.w) X.A X.xe use Q0 (.ref D) ϛ (.ok r) s6) :
    cQ (c8 X.prog X.w) X.A (comprehension (.ListComp pz [⟨tg,iter,ifs,0⟩] scope pos) scope X.env JJ (newList []) Ã (eF iter X.env) use) Q0 X.xe s:=by
  obtain⟨cl,Rl,c1,c2,_⟩:=jm (env:=X.env) scope.names [] (λx hx hf=>I.ok.has x.1 (B.free x hx hf)) (λy c e=>by simp at e);have E4:closureFor scope X.env=pure cl:=by have e:closureFor scope X.env=(forIn scope.names ([]:List (Str×cr)) (λ(x:Str×dq) (cs:List (Str×cr))=>if(x.2==dq.free)=Â then do let a ← cellOf X.env x.1;pure (ForInStep.yield ((x.1,a)::cs))else pure (ForInStep.yield cs)) >>= pure:Ci (List (Str×cr))):=rfl;rw[e,Rl];rfl
  refine wpAny_comprehension_free (use:=use) rfl hs E4 B.kind B.locs (fX (hi cn s M H _ I h) λv s1 h1=>fX h1 λJq s2 h2=>?_);obtain⟨it,fp,tn,ϗ,H2,e,I2,⟨Cs,T,hT⟩,yH,f2,W0⟩:=h2;subst e;obtain⟨W,⟨m0,w0⟩,xO⟩:=W0 s2.heap.objs.size (I2.hok.fresh (cH _));refine gU ?_;have I3:Ë X cn M (upd H2 s2.heap.objs.size (.lst [])) { s2 with heap:=s2.heap.push { cls:=.type "list",data:=.seq ([]:List cj).toArray } }:=I2.lnew .nil (gn _);generalize Mf:({ s2 with heap:=s2.heap.push { cls:=.type "list",data:=.seq ([]:List cj).toArray } }:cE)=s3 at I3;have k3:∀b o,s2.heap.get? b=U o->s3.heap.get? b=U o:=λb o e=>by rw[←Mf];exact cw _ e
  have z3:s3.heap.objs.size=s2.heap.objs.size+1:=by rw[←Mf];exact gu _ _
  have C9:∀b∈fp,b<s2.heap.objs.size:=λb hb=>by obtain⟨o,e,_⟩:=T.obj _ _ yH b hb;exact cF e
  have xG:∀b∈fp,b≠s2.heap.objs.size:=λb hb=>dg (C9 b hb);have f3:∀b∈fp,rT X cn (upd H2 s2.heap.objs.size (.lst [])) b:=λb hb=>⟨by rw[zm (xG b hb)];exact(f2 b hb).1,(f2 b hb).2⟩;have SJ:tn 0 s3.heap:=T.keep _ _ _ yH λb _ o e=>k3 b o e;show cQ _ _ (wK scope X.env.globals cl [] X.env.qual L .none (U X.env)) _ _ _;refine TX λh₁ kk I0 IG=>?_;have IB:=VI (t':=s3.toks) B I3 c1 c2 f3 (λb hb=>by rw[z3];exact mX (C9 b hb)) I0 kk IG;generalize cellsFrom (s3.heap.objs.size+1) scope.names cl=cl at IB ⊢;generalize RJ:({ s3 with heap:=h₁,toks:=s3.toks }:cE)=s4 at IB;have ME:tn 0 s4.heap:=T.keep _ _ _ SJ λb _ o e=>by rw[←RJ];exact kk b o e
  show pq (c8 X.prog X.w) X.A (.compStart (.ListComp pz [⟨tg,iter,ifs,0⟩] scope pos) 0 (.ref it) (.ref s2.heap.objs.size) (compEnvC scope cl s3.heap.objs.size X.env))
      (compPost (c8 X.prog X.w) X.A X.xe use Q0 (.ref s2.heap.objs.size) s3.heap.objs.size) s4
  have xN:∀{H':Hp},(∀b∈fp,H' b=L)->∀b∈fp,rT (nu X scope cl N s3.heap.objs.size fp s3 (upd H2 s2.heap.objs.size (.lst []))) [] H' b:=λhn b hb=>⟨hn b hb,dg (by show b<s3.heap.objs.size;rw[z3];exact mX (C9 b hb)),IB.ok.exfs b hb,.inl hb,λx c e=>(IB.ok.exf b hb).2 x c e,λp hp=>(nomatch hp)⟩;have loop:pq (c8 X.prog X.w) X.A (.compLoop (.ListComp pz [⟨tg,iter,ifs,0⟩] scope pos) 0 (.ref it) (.ref s2.heap.objs.size) (compEnvC scope cl s3.heap.objs.size X.env))
      (compPost (c8 X.prog X.w) X.A X.xe use Q0 (.ref s2.heap.objs.size) s3.heap.objs.size) s4:=by
    refine TV (λn s'=>∃i ys H',Ë (nu X scope cl N s3.heap.objs.size fp s3 (upd H2 s2.heap.objs.size (.lst []))) [] (cy own L++lQ M cap) H' s'/\tn i s'.heap/\(∀b∈fp,H' b=L)/\W i n ys H') ?_ m0
      ⟨0,[],_,IB,ME,λb hb=>(f3 b hb).1,w0⟩
    rintro n s5 ⟨i,ys,H5,I5,D8,GN,w5⟩;obtain⟨hD,Rr⟩:=xO i n ys H5 w5;rcases Rr with⟨stop,qn⟩|⟨go,vD,step⟩
    · refine fX (T.done (nu X scope cl N s3.heap.objs.size fp s3 (upd H2 s2.heap.objs.size (.lst []))) rfl rfl rfl (hT hc _ rfl rfl) i [] s5 _ H5 (λ_ _=>False) I5 (xN GN) D8 stop) λr s6 gK=>?_;obtain⟨hr,I6⟩:=gK;subst hr;obtain⟨m,hm,_⟩:=id I6.loc;refine fin s2.heap.objs.size s3.heap.objs.size H5 s6 _ qn ?_ (I3.fpOk (cH _) I6.free) ⟨m,hm⟩;have sb:ip s3.heap.objs.size s6.heap s6.heap:=⟨rfl,λ_ _=>rfl⟩;have ϔ:=I6.base;have nC:∀b o,s3.heap.get? b=U o->b≠s3.heap.objs.size:=λb o e=>dg (cF e);have nT:∀b o,H5 b=U o->b≠s3.heap.objs.size:=λb o e z=>by have q:H5 s3.heap.objs.size=L:=I6.free;rw[z,q]at e;cases e
      refine I3.call' (ch:=fp) I6.os ?_ (λa o e=>(I6.hok a o e).stay (λb u hb q=>sb.extBut b u ?_ q) (λ_ q=>q) λ_ _ q=>q) I6.bare (λb hb=>⟨(f3 b hb).2.2.2.1,(f3 b hb).2.1,(f3 b hb).2.2.2.2.1,(f3 b hb).2.2.2.2.2⟩)
      · exact{
          keep:=λb o e z hb he=>sb.extBut b o (nC b o e) (ϔ.keep b o e z hb he)
          slot:=λb o e z hb he=>by obtain⟨sl,q⟩:=ϔ.slot b o e z hb he;exact⟨sl,sb.extBut b _ (nC b o e) q⟩
          free:=ϔ.free
          there:=λb o e he=>by obtain⟨o',q⟩:=ϔ.there b o e he;exact⟨o',sb.extBut b o' (nC b o e) q⟩
          tups:=ϔ.tups
          frzs:=ϔ.frzs
          tbls:=ϔ.tbls }
      · rcases hb with rfl|hb
        · exact nT _ _ e
        · exact nT _ _ hb
    · refine fX (T.item (nu X scope cl N s3.heap.objs.size fp s3 (upd H2 s2.heap.objs.size (.lst []))) rfl rfl rfl (hT hc _ rfl rfl) i [] s5 _ H5 (λ_ _=>False) I5 (xN GN) D8 go) λr s6 gK=>?_;obtain⟨u,hr,h6⟩:=gK;subst hr;refine fX h6 λ_ s7 gK=>?_;obtain⟨x,H7,I7,r7,y7,JT,QU⟩:=gK;have Qn:=I7.pinned (xN QU) (T.obj _ _ JT);refine fX (hg cl s3.heap.objs.size fp s3 _ _ s7 _ H7 x u _ Qn r7 (kg _ _ _ _ (step x H7 y7))) λ_ s8 gK=>?_;obtain⟨σ8,H8,I8,q8,l8,p8⟩:=gK;have back:∀{H9:Hp} {s9:cE},Ë (nu X scope cl N s3.heap.objs.size fp s3 (upd H2 s2.heap.objs.size (.lst []))) ([]++sS fp s7.heap) σ8 H9 s9 ->
          Ë (nu X scope cl N s3.heap.objs.size fp s3 (upd H2 s2.heap.objs.size (.lst []))) [] (cy own L++lQ M cap) H9 s9/\tn (i+1) s9.heap/\∀b∈fp,H9 b=L:=λ{H9 s9} I9=>by
        refine⟨(I9.unpinned).weak l8.symm (λj v e=>?_),T.keep _ _ _ JT λb hb o e=>(I9.pin (b,o) (cC _ (cC _ (v8 hb e)))).1,λb hb=>?_⟩
        · by_cases hj:j<own
          · rw[fE (by rw[eS];exact hj),nz,if_pos hj]at e;cases e
          · rw[p8 j (by omega)];exact e
        · obtain⟨o,e,d⟩:=T.obj _ _ JT b hb;exact(I9.pin (b,o) (cC _ (cC _ (v8 hb e)))).2.1
      refine fX (ht cl s3.heap.objs.size fp s3 _ _ s8 σ8 H8 _ I8 q8) λok s9 gK=>?_;obtain⟨H9,I9,q9⟩:=gK;cases ok with
      |false=>rw[if_neg cI];rw[if_neg cI]at q9;obtain⟨m',Fc,w'⟩:=q9;obtain⟨b1,b2,b3⟩:=back I9;exact⟨m',Fc,i+1,ys,H9,b1,b2,b3,w'⟩
      |true=>rw[if_pos rfl];rw[if_pos rfl]at q9;refine fX (he cl s3.heap.objs.size fp s3 _ _ s9 σ8 H9 _ I9 q9) λuy Sk gK=>?_;obtain⟨y,LG,Qk,r10,IA,m',Fc,w'⟩:=gK;refine fX (Nh _ Sk σ8 LG (.ref s2.heap.objs.size) [y] (.ref s2.heap.objs.size) [uy] (λ_ LH=>LH=upd LG s2.heap.objs.size (.lst (ys++[y]))) Qk rfl (.cons r10 .nil) ⟨_,ys,y,rfl,rfl,IA,vD,rfl⟩) λ_ s11 gK=>?_;obtain⟨_,LH,Ql,_,Qu⟩:=gK;subst Qu;obtain⟨b1,b2,b3⟩:=back Ql;exact⟨m',Fc,i+1,ys++[y],_,b1,b2,b3,w'⟩
  exact codeAny_compStart_list loop (T.self X.A 0 s4 _ _ ME loop)
theorem X1 {N:List Str}{own:Nat}{c:Prop}(B:oz X scope N own cap)(hc:c)(hi:EK X c tg iter wi)
  (kg:kJ own g)
  (hg:∀cl ϛ fp s₀ H₀,PG (nu X scope cl N ϛ fp s₀ H₀) tg g) (ht:∀cl ϛ fp s₀ H₀,Cp (nu X scope cl N ϛ fp s₀ H₀) ifs tt) (he:∀cl ϛ fp s₀ H₀,PE (nu X scope cl N ϛ fp s₀ H₀) pz te)
  (hs:Ao X iter:=by intro _;rfl):PE X (.ListComp pz [⟨tg,iter,ifs,0⟩] scope pos) (yI wi own cap g tt te):=by
 intro cn s M H Q I h;rw[eval_ListComp];refine NL (use:=none) (Q0:=EP X cn M Q) B hc hi kg hg ht he hs I h λD ϛ H5 s6 r q I6 fo hm=>?_;obtain⟨m,hm⟩:=hm;obtain⟨f0,f1,f2,f3,f4,f5⟩:=fo;exact⟨m,hm,λh' sb=>⟨.ref D,H5,I6.turned (t':=s6.toks) (it:=ϛ) (λb o hb e=>sb.extBut b o hb e) f0 f1 f3 f4 f5,rfl,q⟩⟩
variable {ch:List cr}
theorem Ë.turnLay {o:HO}(I:Ë X cn M H s)(sr:∀b∈ch,rT X cn H b)(k:∀b o,b∉ch->s.heap.get? b=U o->h'.get? b=U o)(hp:s.heap.objs.size<=a)
  (new:gO X.prog X.w (upd H a o) h' a o):Ë X cn M (upd H a o) { s with heap:=h',toks:=t' }:=by
 have hn:H a=L:=I.hok.fresh hp;have FB:∀b u,H b=U u->b∉ch:=λb u e z=>by rw[(sr b z).1]at e;cases e
 refine I.step (g':=s.gens) (d':=s.drawn) (ch:=ch) (λb hb=>⟨(sr b hb).2.2.2.1,(sr b hb).2.1,(sr b hb).2.2.2.2.1,(sr b hb).2.2.2.2.2⟩) (λb o _ _ hc e _=>k b o hc e) (λb o _ _ hc e _=>⟨o.slots,k b o hc e⟩)
  (λb o _ e n=>by rw[zm (dg (di (cF e) hp))];exact n) (λb o hc e=>⟨o,k b o hc e⟩) (λb xs q=>by rw[zm (zu q hn)];exact q) (λb u xs q=>by rw[zm (zu q hn)];exact q)
  (λb ps q=>⟨#[],by rw[zm (zu q hn),q];simp⟩) (λm hm=>?_) (λb u e=>?_) I.bare
 ·obtain⟨o',es,ep,ho,r⟩:=hm;exact⟨o',es,ep,k _ o' (λz=>(sr _ z).2.1 rfl) ho,r⟩
 ·by_cases hb:b=a
  ·subst hb;rw[zo]at e;cases e;exact new
  ·rw[zm hb]at e;refine(I.hok b u e).stay (λc v hc q=>k c v ?_ q) (λc q=>by rw[zm (zu q hn)];exact q) λc xs q=>by rw[zm (zu q hn)];exact q
   rcases hc with z|z
   ·rw[z];exact FB b u e
   ·exact FB c _ z
theorem Ë.turnedL (I:Ë X cn M H s)(sr:∀b∈ch,rT X cn H b)(k:∀b o,b∉ch->s.heap.get? b=U o->h'.get? b=U o):Ë X cn M H { s with heap:=h',toks:=t' }:=by
 have FB:∀b u,H b=U u->b∉ch:=λb u e z=>by rw[(sr b z).1]at e;cases e
 refine I.step (g':=s.gens) (d':=s.drawn) (ch:=ch) (λb hb=>⟨(sr b hb).2.2.2.1,(sr b hb).2.1,(sr b hb).2.2.2.2.1,(sr b hb).2.2.2.2.2⟩) (λb o _ _ hc e _=>k b o hc e) (λb o _ _ hc e _=>⟨o.slots,k b o hc e⟩)
  (λ_ _ _ _ n=>n) (λb o hc e=>⟨o,k b o hc e⟩) (λ_ _ e=>e) (λ_ _ _ e=>e) (λb ps e=>⟨#[],by rw[e];simp⟩) (λm hm=>?_) (λb u e=>?_) I.bare
 ·obtain⟨o',es,ep,ho,r⟩:=hm;exact⟨o',es,ep,k _ o' (λz=>(sr _ z).2.1 rfl) ho,r⟩
 ·refine(I.hok b u e).stay (λc v hc q=>k c v ?_ q) (λ_ q=>q) λ_ _ q=>q;rcases hc with z|z
  ·rw[z];exact FB b u e
  ·exact FB c _ z
def Ig (K:cm)(a:cr):It :=
 ⟨λi H=>∃xs x,ir K H a xs/\xs[i]?=U x,λi H x H'=>∃p y,H p=L/\x=.ref p/\H'=upd H p (.tup [.int i,y])/\∀xs,ir K H a xs->xs[i]?=U y,λi H=>∃xs,ir K H a xs/\xs.length<=i⟩
variable {qS:List Expr}{kt:Nat}
theorem VJ {w:dP}{K:cm}{pt:oj}(a e it:cr)(L9:e≠it) :
    ù P w K (.Tuple qS kt pt) (Ig K a) [e,it] e (λi h=>(∃old,IsEnum h e it i old)/\h.IsListIter it a i) where
  mem:=by simp
  obj:=λi h st b hb=>by
    obtain⟨⟨old,he⟩,o,e1,c,d⟩:=st;rcases cu.mp hb with rfl|hb
    · exact⟨_,he,λv z=>by cases z⟩
    · have e2:b=it:=by simpa using hb
      subst e2;exact⟨o,e1,λv z=>by rw[d]at z;cases z⟩
  keep:=λi h h' st k=>by obtain⟨⟨old,he⟩,hit⟩:=st;exact⟨⟨old,k e (by simp) _ he⟩,hit.at λo x=>k it (by simp) o x⟩
  item:=by
    intro X hP hw hK hc i cn s M H E I hf st hg;subst hP hw hK;obtain⟨xs,x,hq,hx⟩:=hg;obtain⟨dZ,rv,p,hz⟩:=I.list hq;obtain⟨u,hu,ru⟩:=rv.get hx;obtain⟨⟨old,he⟩,hit⟩:=st;refine wpAny_pyNext_enum_item he hit p.isList (x:=u) (by simpa using hu) L9 λh1 ho IS hT hsz hk=>?_;refine⟨_,rfl,wpAny_letOwnedTupleGo_enum (s:={ s with heap:=h1,toks:=s.toks+1 }) ho λh2 E7 vX=>?_⟩;have pz:e<s.heap.objs.size:=cF he;have Fv:it<s.heap.objs.size:=by obtain⟨_,q,_⟩:=hit;exact cF q
    have EY:h2.get? s.heap.objs.size=U { cls:=.type "tuple",data:=.seq #[.int i s.toks,u] }:=(vX.2 _ (kE pz)).trans hT;have E8:H s.heap.objs.size=L:=I.hok.fresh (cH _);have I1:Ë X cn M (upd H s.heap.objs.size (.tup [.int i,x])) { s with heap:=h2,toks:=s.toks+1 }:=by refine I.turnLay (ch:=[e,it]) hf (λb o hb q=>?_) (cH _) ⟨by show 2<=sizeLine;decide,[.int i s.toks,u],.cons ⟨_,rfl⟩ (.cons ru .nil),_,EY,rfl,_,rfl⟩;have LR:b≠e:=λz=>hb (by simp[z]);have Q3:b≠it:=λz=>hb (by simp[z]);exact(vX.2 b LR).trans (hk b o LR Q3 q)
    refine⟨.ref s.heap.objs.size,_,I1,rfl,⟨_,x,E8,rfl,rfl,λys hy=>by rw[I.list_inj hy hq];exact hx⟩,⟨⟨u,by simpa using E7⟩,IS.at λo q=>(vX.2 it L9.symm).trans q⟩,λb hb=>?_⟩;rw[zm ?_]
    · exact(hf b hb).1
    · rcases cu.mp hb with rfl|hb
      · exact dg pz
      · have e2:b=it:=by simpa using hb
        rw[e2];exact dg Fv
  done:=by intro X hP hw hK hc i cn s M H E I hf st hg;subst hP hw hK;obtain⟨xs,hq,hx⟩:=hg;obtain⟨dZ,rv,p,hz⟩:=I.list hq;obtain⟨⟨old,he⟩,hit⟩:=st;have hl:=rv.length;exact wpAny_pyNext_enum_end (I.ok.hd hc) he hit p.isList (by simp;omega) λh' eb=>⟨rfl,I.turnedL (ch:=[e,it]) (t':=s.toks) hf λb o hb q=>eb b o (λz=>hb (by simp[z])) q⟩
  self:=λ_ _ _ _ _ st h=>wpAny_pyIter_enum st.1.choose_spec h
variable {l:Expr}
section
variable {pt:oj}
def Fo (K:cm)(ta:TA):TI:=λM H R=>ta M H λvs H1=>∃a,vs=[.ref a]/\(∃xs,ir K H1 a xs)/\R (Ig K a) H1
theorem OD {ta:TA}(hg:Gl X "enumerate")(hm:X.mg "enumerate"=L)(ha:PA X [l] ta)(hs:SN X l:=by rfl) :
  PI X (.Tuple qS kt pt) (.Call (.Name "enumerate" p) [l] [] pos) (Fo X.K ta):=by
 intro cn s M H R I h;refine Call_ (j9 I hg hm PyProof.Rows.boot_enumerate (eT (fX (ha pos cn s M H _ I h) λus s1 hq=>?_) hs rfl));obtain⟨vs,H1,I1,r1,q1⟩:=hq;obtain⟨a,e,⟨xs,hq⟩,q⟩:=q1;subst e;cases r1 with
 |cons r rr=>
  cases rr;cases r;obtain⟨dZ,rv,pl,hz⟩:=I1.list hq;refine call_enumerate_list pl.isList λh' he hit hsz hk=>?_;refine wpAny_pyIter_enum (s:={ s1 with heap:=h' }) he ?_;refine⟨s1.heap.objs.size+1,[s1.heap.objs.size+1,s1.heap.objs.size],_,_,H1,rfl,I1.kept (t':=s1.toks) hk,(VJ a _ _ (Nat.succ_ne_self _)).ok,⟨⟨_,he⟩,hit⟩,λb hb=>?_,q⟩;rcases cu.mp hb with rfl|hb
  ·exact I1.fpOk (xR _) (I1.hok.fresh (xR _))
  ·have e:b=s1.heap.objs.size:=by simpa using hb
   subst e;exact I1.fpOk (cH _) (I1.hok.fresh (cH _))
end
section
open PySem
def ED (K:cm)(a:cr)(xs:List V):Prop:=∃(o:iZ) (dZ:Array cj) (n:Nat),K.lookup a=U o/\o.cls=.type "tuple"/\o.data=.seq dZ n/\dZ.size<=sizeLine/\dU xs dZ.toList
theorem dJ.rd {u:HO}(e:dJ H H')(h:Rd H a u):Rd H' a u:=h.elim (λh=>.inl (e _ _ h)) λh=>.inr (h.elim λo h=>⟨o,e _ _ h⟩)
end
end L2
namespace PySem
variable {A:dQ}{prog:eu}{w:dP}
end PySem
namespace L2
open PySem PyProof.Rows
variable {X:Cx}{cap:List Nat}{pz iter tg:Expr}{g:TG}{i:Nat}{ifs:List Expr}{pos pos':oj}{scope:qI}{te:TE}{tt:TT}{wi:TI}{x:Str}
theorem U3 {vY:oj}{N:List Str}{own:Nat}(B:oz X scope N own cap)(hc:X.calm=Â)(hi:PI X tg iter wi)
  (kg:kJ own g)
  (hg:∀cl ϛ fp s₀ H₀,PG (nu X scope cl N ϛ fp s₀ H₀) tg g) (ht:∀cl ϛ fp s₀ H₀,Cp (nu X scope cl N ϛ fp s₀ H₀) ifs tt) (he:∀cl ϛ fp s₀ H₀,PE (nu X scope cl N ϛ fp s₀ H₀) pz te)
  (hN:X.N.Nodup) (D1:X.N[i]?=U x) (hx:õ X.env.scope x) (BJ:gQ (.ListComp pz [⟨tg,iter,ifs,0⟩] scope pos) (U (.Name x pos')) vY.line X.env=pure Â)
  (hs:Ao X iter:=by intro _;rfl) (hf:uZ X x:=by walk_at "v2") :
  PS X (.Assign [.Name x pos'] (.ListComp pz [⟨tg,iter,ifs,0⟩] scope pos) vY) (Dy (yI wi own cap g tt te) (xY i)):=by
 intro cn s M H D I h;rw[exec_Assign_Name_used _ _ _ _ BJ];refine cq (rS (cq ?_));show cQ _ X.A (do let _ ← comprehension (.ListComp pz [⟨tg,iter,ifs,0⟩] scope pos) scope X.env _ (newList []) Ã (eF iter X.env) (U (lK (.Name x pos') X.env))) _ _ s;refine cq (gh (NL (use:=some (lK (.Name x pos') X.env)) (Q0:=λ_ s'=>∃σ' H',Ë X cn σ' H' s'/\D.nx σ' H') B hc hi kg hg ht he hs I h λDa ϛ H5 s6 r q I6 fo hm=>?_) (λ_ s' hq=>cP (cP hq)) λ_ _ e=>e);show cQ _ X.A (lK (.Name x pos') X.env (.ref Da)) _ _ _;refine wpAny_assign_Name (Nk (v:=.ref Da) I6 hN D1 hx rfl (λs7 I7 RK=>?_) hf);obtain⟨m,hm⟩:=hm;obtain⟨a,sb,ha⟩:=RK;obtain⟨f0,f1,f2,f3,f4,f5⟩:=fo;have xG:ϛ≠a:=by
  rcases ha with rfl|ha
  ·exact f1
  ·exactλz=>f4 x a ha z.symm
 refine⟨m,hm.sameBut sb xG,λh' Sn=>⟨_,H5,I7.turned (t':=s7.toks) (it:=ϛ) (λb o hb e=>Sn.extBut b o hb e) f0 f1 f3 f4 f5,q⟩⟩
variable {P:eu}{qS:List Expr}{kt:Nat}{l:Expr}{p:oj}
section
open PySem PySem.Spec PyProof.Rows
def Ij (K:cm)(a b:cr):It :=
 ⟨λi H=>∃xs ys x y,(ir K H a xs/\ir K H b ys)/\xs[i]?=U x/\ys[i]?=U y,λi H x H'=>∃p u v,H p=L/\x=.ref p/\H'=upd H p (.tup [u,v])/\(∀xs,ir K H a xs->xs[i]?=U u)/\∀ys,ir K H b ys->ys[i]?=U v,
  λi H=>∃xs ys,(ir K H a xs/\ir K H b ys)/\(xs.length<=i\/ys.length<=i)⟩
theorem WL {w:dP}{K:cm}{pt:oj}(z TI TO i1 i2 l1 l2:cr)(ap:ZipApart z TI TO i1 i2 l1 l2) :
    ù P w K (.Tuple qS kt pt) (Ij K l1 l2) [z,TI,TO,i1,i2] z (λi h=>IsZip h z TI TO .none/\IsPair h TI (.ref i1) (.ref i2)/\(∃a b,IsPair h TO a b)/\h.IsListIter i1 l1 i/\h.IsListIter i2 l2 i) where
  mem:=by simp
  obj:=λi h st b hb=>by
    obtain⟨q1,q2,⟨a,b',q3⟩,⟨o4,e4,_,d4⟩,⟨o5,e5,_,d5⟩⟩:=st;simp only[cu,dO,or_false]at hb;rcases hb with rfl|rfl|rfl|rfl|rfl
    · exact⟨_,q1,λv y=>by cases y⟩
    · exact⟨_,q2,λv y=>by cases y⟩
    · exact⟨_,q3,λv y=>by cases y⟩
    · exact⟨_,e4,λv y=>by rw[d4]at y;cases y⟩
    · exact⟨_,e5,λv y=>by rw[d5]at y;cases y⟩
  keep:=λi h h' st k=>by obtain⟨q1,q2,⟨a,b',q3⟩,q4,q5⟩:=st;exact⟨k z (by simp) _ q1,k TI (by simp) _ q2,⟨a,b',k TO (by simp) _ q3⟩,q4.at λo x=>k i1 (by simp) o x,q5.at λo x=>k i2 (by simp) o x⟩
  item:=by
    intro X hP hw hK hc i cn s M H E I hf st hg;subst hP hw hK;obtain⟨xs,ys,x,y,⟨hq,uO⟩,hx,hy⟩:=hg;obtain⟨dZ,rv,p,hz⟩:=I.list hq;obtain⟨its',BY,p',Bq⟩:=I.list uO;obtain⟨u,hu,ru⟩:=rv.get hx;obtain⟨u',D3,JQ⟩:=BY.get hy;obtain⟨q1,q2,⟨a,b',q3⟩,q4,q5⟩:=st;refine wpAny_pyNext_zip_item ap q1 q2 q3 q4 q5 p.isList p'.isList (x:=u) (y:=u') (by simpa using hu) (by simpa using D3) λh1 r1 r2 r3 r4 r5 hsz hk=>?_;refine⟨_,rfl,wpAny_letOwnedTupleGo_zip (s:={ s with heap:=h1 }) r1 λh2 E7 vX=>?_⟩;have Gy:z<s.heap.objs.size:=cF q1;have Ka:TI<s.heap.objs.size:=cF q2;have JH:TO<s.heap.objs.size:=cF q3;have Fv:i1<s.heap.objs.size:=by obtain⟨_,q,_⟩:=q4;exact cF q
    have Js:i2<s.heap.objs.size:=by obtain⟨_,q,_⟩:=q5;exact cF q
    have EY:h2.get? s.heap.objs.size=U { cls:=.type "tuple",data:=.seq #[u,u'] }:=(vX.2 _ (kE Gy)).trans r5;have E8:H s.heap.objs.size=L:=I.hok.fresh (cH _);have I1:Ë X cn M (upd H s.heap.objs.size (.tup [x,y])) { s with heap:=h2,toks:=s.toks }:=by refine I.turnLay (ch:=[z,TI,TO,i1,i2]) hf (λb o hb q=>?_) (cH _) ⟨by show 2<=sizeLine;decide,[u,u'],.cons ru (.cons JQ .nil),_,EY,rfl,_,rfl⟩;have b1:b≠z:=λe=>hb (by simp[e]);have b3:b≠TO:=λe=>hb (by simp[e]);have b4:b≠i1:=λe=>hb (by simp[e]);have b5:b≠i2:=λe=>hb (by simp[e]);exact(vX.2 b b1).trans (hk b o b1 b3 b4 b5 q)
    refine⟨.ref s.heap.objs.size,_,I1,rfl,⟨_,x,y,E8,rfl,rfl,λzs Dg=>by rw[I.list_inj Dg hq];exact hx,λzs Dg=>by rw[I.list_inj Dg uO];exact hy⟩,⟨E7,(vX.2 TI ap.TIz).trans (hk TI _ ap.TIz ap.TITO ap.TIi1 ap.TIi2 q2),⟨_,_,(vX.2 TO ap.TOz).trans r2⟩,r3.at λo q=>(vX.2 i1 ap.i1z).trans q,r4.at λo q=>(vX.2 i2 ap.i2z).trans q⟩,λb hb=>?_⟩;rw[zm ?_]
    · exact(hf b hb).1
    · simp only[cu,dO,or_false]at hb;rcases hb with rfl|rfl|rfl|rfl|rfl
      · exact dg Gy
      · exact dg Ka
      · exact dg JH
      · exact dg Fv
      · exact dg Js
  done:=by intro X hP hw hK hc i cn s M H E I hf st hg;subst hP hw hK;obtain⟨xs,ys,⟨hq,uO⟩,hx⟩:=hg;obtain⟨dZ,rv,p,hz⟩:=I.list hq;obtain⟨its',BY,p',Bq⟩:=I.list uO;obtain⟨q1,q2,⟨a,b',q3⟩,q4,q5⟩:=st;have hl:=rv.length;have BG:=BY.length;refine wpAny_pyNext_zip_end (I.ok.hd hc) ap q1 q2 q3 q4 q5 p.isList p'.isList (hx.imp (λh=>by simp;omega) (λh=>by simp;omega)) λh' eb=>⟨rfl,I.turnedL (ch:=[z,TI,TO,i1,i2]) (t':=s.toks) hf λb o hb q=>?_⟩;exact eb b o (λe=>hb (by simp[e])) (λe=>hb (by simp[e])) (λe=>hb (by simp[e])) (λe=>hb (by simp[e])) q
  self:=λ_ _ _ _ _ st h=>oS st.1 h
section
variable {pt:oj}
def Jn (K:cm)(ta:TA):TI:=λM H R=>ta M H λvs H1=>∃a b,vs=[.ref a,.ref b]/\(∃xs ys,ir K H1 a xs/\ir K H1 b ys)/\R (Ij K a b) H1
theorem ż {l':Expr}{ta:TA}(hg:Gl X "zip")(hm:X.mg "zip"=L)(ha:PA X [l,l'] ta)(hs:dD [l,l'] X.env=[(Ã,eF l X.env),(Ã,eF l' X.env)]:=by rfl)(tS:SN X l':=by rfl) :
  PI X (.Tuple qS kt pt) (.Call (.Name "zip" p) [l,l'] [] pos) (Jn X.K ta):=by
 intro cn s M H R I h;refine Call_ (j9 I hg hm si (eT (fX (ha pos cn s M H _ I h) λus s1 ⟨vs,H1,I1,r1,q1⟩=>?_) (by rw[hs,tS]) (by rw[tS];rfl)));obtain⟨a,b,e,⟨xs,ys,hq,uO⟩,q⟩:=q1;subst e;cases r1 with
 |cons r rr=>
  cases rr with
  |cons r' rr=>
   cases rr;cases r;cases r';obtain⟨dZ,rv,pl,hz⟩:=I1.list hq;obtain⟨its',BY,FJ,Bq⟩:=I1.list uO;have Jw:a<s1.heap.objs.size:=by obtain⟨_,q,_⟩:=pl.isList;exact cF q
   have Dk:b<s1.heap.objs.size:=by obtain⟨_,q,_⟩:=FJ.isList;exact cF q
   refine call_zip_2 pl.isList FJ.isList λh' r1 r2 r3 r4 r5 hsz hk=>?_;refine oS (s:={ s1 with heap:=h' }) r1 ?_;refine⟨_,[_,_,_,_,_],_,_,H1,rfl,I1.kept (t':=s1.toks) hk,(WL _ _ _ _ _ a b (zipApart_new Jw Dk)).ok,⟨r1,r2,⟨_,_,r3⟩,r4,r5⟩,λc hb=>?_,q⟩;have:s1.heap.objs.size<=c:=by simp only[cu,dO,or_false]at hb;rcases hb with rfl|rfl|rfl|rfl|rfl<;>omega
   exact I1.fpOk this (I1.hok.fresh this)
end
end
variable {e:Expr}{p2:oj}
variable {es:List Expr}{n:Nat}
section
open PySem PySem.Spec
open PyProof.Rows hiding St
def Iu (K:cm)(n:Nat)(t:Bj):TG:=λv M H Q=>∃a xs,v=.ref a/\ir K H a xs/\xs.length=n/\t xs M H Q
theorem Ż {k:Nat}{t:Bj}(hc:X.calm=Â)(h:CY X es t)
  (hn:(ef es X.env).length=n:=by rfl) (m6:(ef es X.env).findIdx? (·.1)=L:=by rfl):PG X (.Tuple es k pos) (Iu X.K n t):=by
 intro cn s M H v u Q I r hw;obtain⟨a,xs,e1,hq,hl,hw⟩:=hw;subst e1;cases r;obtain⟨dZ,rv,ht,hz⟩:=I.list hq;have yZ:(ef es X.env).length=dZ.toArray.size:=by simp[hn,←hl,rv.length]
 rw[assign_Tuple];refine cq (rS ?_);unfold unpack;rw[yZ,m6];obtain⟨o,n1,e,c1,c2,c3⟩:=ht;refine cq (oq (PySem.W.kun_itemsOf (I.ok.hd hc) ⟨o,e,c1,by first|exact c3|exact⟨_,c3⟩|(rw[c3])⟩ λh' hx=>?_));have I1:Ë X cn M H { s with heap:=h' }:=I.kept (t':=s.toks) λb o e=>hx b o (dg (cF e)) e;exact h cn _ M H xs _ Q I1 (by simpa using rv) hw
end
variable {ϛ f:cr}{CX:Bf}{fQ:oj}{fd:cz}{m:Str}{o:Expr}{ps:List Str}{sp:Sp}{ta:TE}
variable {E:cj->cE->Prop}{l1 l2:cr}{s:cE}
variable {S:List cj}{mQ:List V}
end L2
namespace PySem
variable {A:dQ}{prog:eu}{w:dP}
end PySem
namespace L2
open PySem PySem.Spec PyProof.Rows
variable {E Q:cj->cE->Prop}{X:Cx}{e:Expr}{p2 pos:oj}{s:cE}{te:TE}{x:Str}
section
variable {sl sp:Expr}{tl tp:TO}
theorem U4 {prog:eu}{w:dP}{A:dQ}{y:Str}{t u:Tok}(hy:(y.length==0)=Ã)(hx:x.length<=sizeLine)(hn:(Txt.split x y).length<=sizeLine)
    (h:∀(l:List (Str×Tok)) k,l.map (·.1)=Txt.split x y->Q (.ref s.heap.objs.size) { s with heap:=s.heap.push { cls:=.type "list",data:=.seq (strValues l).toArray },toks:=k }):cQ (c8 prog w) A (call (.builtin "str.split") [.str x t,.str y u]) Q E s:=by
  cases h1:(decide (x.length<y.length) || decide (PySem.Builtin.Str.strKind x<PySem.Builtin.Str.strKind y))with
  |true=>exact nj F.slot_str_split (typeIs_str _ _ _) F.entry_str_split (F.args_str_split_2 _ _) (meets_str_split_cannot_occur x y t u h1) (h [(x,t)] s.toks (by unfold Txt.split;rw[if_pos h1];rfl))
  |false=>
    cases hf:(Builtin.Str.occurrences x y 0 x.length (x.length+1)).isEmpty with
    |true=>exact nj F.slot_str_split (typeIs_str _ _ _) F.entry_str_split (F.args_str_split_2 _ _) (meets_str_split_not_found x y t u h1 hy hf) (h [(x,t)] s.toks (by unfold Txt.split;rw[h1,if_neg cI,if_pos hf];rfl))
    |false=>
      have e:Txt.split x y=Builtin.Str.partsBetween x (Builtin.Str.occurrences x y 0 x.length (x.length+1)) y.length:=by unfold Txt.split;rw[h1,if_neg cI,hf,if_neg cI]
      rw[e]at hn;refine nj F.slot_str_split (typeIs_str _ _ _) F.entry_str_split (F.args_str_split_2 _ _) (meets_str_split_sep x y t u h1 hy hf hx hn) ?_;have:=h (numbered s.toks (Builtin.Str.partsBetween x (Builtin.Str.occurrences x y 0 x.length (x.length+1)) y.length)) (s.toks+(Builtin.Str.partsBetween x (Builtin.Str.occurrences x y 0 x.length (x.length+1)) y.length).length) ((numbered_texts _ _).trans e.symm);rw[←strsFrom_eq]at this;exact this
theorem nh:∀l:List (Str×Tok),dU ((l.map (·.1)).map V.str) (strValues l)
 |[]=>.nil
 |(x,t)::l=>.cons ⟨t,rfl⟩ (nh l)
def Dw:V->List V->Hp->VK->Prop:=λx vs H Q=>∃y z,x=.str y/\vs=[.str z]/\(z.length==0)=Ã/\y.length<=sizeLine/\(Txt.split y z).length<=sizeLine/\∀p,H p=L->Q (.ref p) (upd H p (.lst ((Txt.split y z).map V.str)))
theorem WM:CV X "str.split" Dw:=by intro cn s M H x vs v us Q I rx rv h;obtain⟨y,z,rfl,rfl,hz,hy,hn,q⟩:=h;obtain⟨tk,rfl⟩:=rx;obtain⟨u,rfl,ru⟩:=rv.one;obtain⟨tu,rfl⟩:=ru;refine U4 hz hy hn λl k e=>?_;rw[←e]at hn q;refine⟨.ref _,_,I.laid (t':=k) (o:=.lst ((l.map (·.1)).map V.str)) (λb ob q=>cw _ q) (cH _) ?_,rfl,q _ (I.hok.fresh (cH _))⟩;exact⟨by rw[cA];exact hn,_,0,nh l,dc _ rfl⟩
theorem yg:iW X (.type "int") (λxs H Q=>∃y i,xs=[.str y]/\PySem.intText? y=U i/\y.length<=640/\Q (.int i) H):=by intro cn s M H xs us Q I r h;obtain⟨y,i,rfl,hi,hl,q⟩:=h;obtain⟨u,rfl,rx⟩:=uE r;obtain⟨tk,rfl⟩:=rx;exact PySem.W.KIN.call_text hi hl ⟨.int i,H,I.tok _,⟨_,rfl⟩,q⟩
end
class inductive EL (w:dP):List DictEntry->List (Str×cj)->Prop
 |nil:EL w [] []
 |cons {k:Str} {t:Tok} {v:cj} {es:List DictEntry} {Ϝ:List (Str×cj)}:EL w es Ϝ->EL w (⟨cX.keyHash w.params k,.str k t,v⟩::es) ((k,v)::Ϝ)
structure KD (K:cm)(w:dP)(mg:Str->Option cj)(x:Str)(da:cr)(Ϝ:List (Str×cj)):Prop where
 mgx:mg x=U (.ref da)
 sy:(da==gc)=Ã
 ob:∃(es:Array DictEntry) (ep:Nat),K.lookup da=U ⟨.type "dict",L,.dict es ep,#[]⟩/\EL w es.toList Ϝ
variable {Ϝ:List (Str×cj)}{P:eu}{h:cM}
section
variable {w:dP}
theorem EL.keys {es:List DictEntry}(h:EL w es Ϝ):∀e∈es,∃k,(strKind P w).is k e.key=Â/\e.hash=(strKind P w).hash k:=by
 induction h with
 |nil=>intro e h;cases h
 |@cons k t v es Ϝ h ih=>
  intro e he;rcases cu.mp he with rfl|he
  ·exact⟨k,strKind_is P w k t,rfl⟩
  ·exact ih e he
theorem EL.find {es:List DictEntry}(h:EL w es Ϝ)(k:Str):(es.find? λe=>(strKind P w).is k e.key).map (·.val)=Ϝ.lookup k:=by
 induction h with
 |nil=>rfl
 |@cons k' t v es Ϝ h ih=>
  rw[eI,cZ];have:(strKind P w).is k (.str k' t)=(k==k'):=by
   show cj.isStrOf k (.str k' t)=_;simp[cj.isStrOf]
   first|rfl|exact Bool.beq_comm|(rw[A0];simp[eq_comm])
  dsimp only;rw[this];cases e:(k==k')with
  |true=>rfl
  |false=>exact ih
theorem KD.map {K:cm}{mg:Str->Option cj}{da:cr}(D:KD K w mg x da Ϝ)(X:K.In h):h.MapOf (strKind P w) da (λk=>Ϝ.lookup k):=by obtain⟨es,ep,l,q⟩:=D.ob;refine⟨_,es,ep,X _ _ l,⟨rfl,rfl,rfl⟩,rfl,λe he=>q.keys e (tW.mp he),λk=>?_⟩;show findBy (PySem.strKind P w).is es k=Ϝ.lookup k;rw[←q.find (P:=P) k];unfold findBy;rw[←xP]
end
variable {CX:Bf}{es:List Expr}{p:oj}{ty:TE}
section
variable {da:cr}{i:Expr}
def Sx (Ϝ:List (Str×cj))(ty:TE):TE:=λM H Q=>ty M H λy H1=>∃k u v,y=.str k/\Ϝ.lookup k=U u/\Í v u/\Q v H1
theorem Ŕ (D:KD X.K X.w X.mg x da Ϝ)(hg:Gl X x)(hi:PE X i ty)(hs:Ap i)(hd:kC x):PE X (.Subscript (.Name x p) i pos) (Sx Ϝ ty):=by intro cn s M H Q I h;refine Ot PySem.F.slot_dict_getitem.lookup hs (vc I hg D.mgx (fX (hi cn s M H _ I h) λiv s2 hq=>?_) hd);obtain⟨y,H2,I2,ry,k,u,v,ey,l,rv,q2⟩:=hq;subst ey;obtain⟨t,rfl⟩:=ry;have ϖ:=D.map (P:=X.prog) I2.kIn;exact⟨ϖ.typeIs,wpAny_getItem_of (strKind_is X.prog X.w k t) ϖ l ⟨v,H2,I2.tok _,rv,q2⟩⟩
def CM (neg:Bool)(Ϝ:List (Str×cj))(ty:TE):TE:=λM H Q=>ty M H λy H1=>∃k,y=.str k/\Q (.bl (if neg then !(Ϝ.lookup k).isSome else(Ϝ.lookup k).isSome)) H1
theorem X2 (D:KD X.K X.w X.mg x da Ϝ)(hg:Gl X x)(hi:PE X i ty)(hd:kC x):PC X .In i (.Name x p) (CM Ã Ϝ ty):=by intro cn s M H Q I h;refine fX (hi cn s M H _ I h) λiv s1 ⟨y,H1,I1,ry,k,ey,q1⟩=>vc I1 hg D.mgx ?_ hd;subst ey;obtain⟨t,rfl⟩:=ry;exact wpAny_in_of (strKind_is X.prog X.w k t) D.sy (D.map (P:=X.prog) I1.kIn) ⟨.bl _,H1,I1.tok _,rfl,q1⟩
theorem U5 (D:KD X.K X.w X.mg x da Ϝ)(hg:Gl X x)(hi:PE X i ty)(hd:kC x):PC X .NotIn i (.Name x p) (CM Â Ϝ ty):=by intro cn s M H Q I h;refine fX (hi cn s M H _ I h) λiv s1 ⟨y,H1,I1,ry,k,ey,q1⟩=>vc I1 hg D.mgx ?_ hd;subst ey;obtain⟨t,rfl⟩:=ry;exact wpAny_notIn_of (strKind_is X.prog X.w k t) D.sy (D.map (P:=X.prog) I1.kIn) ⟨.bl _,H1,I1.tok _,rfl,q1⟩
variable {E:XK}{t:TA}
def JX (Ϝ:List (Str×cj))(F:Str->cr->Sp->Prop)(E:XK)(ty:TE)(t:TA):TE:=λM H Q=>ty M H λy H1=>∃k f sp,y=.str k/\Ϝ.lookup k=U (.ref f)/\F k f sp/\t M H1 λvs H2=>sp vs H2 Q E
theorem ź {F:Str->cr->Sp->Prop}(D:KD X.K X.w X.mg x da Ϝ)(hF:∀k f sp,F k f sp->∃kk fd ps,dL X.prog X.w X.K X.mg X.base CX kk f fd ps sp/\fH kk X.A/\fk X.K (.ref f)=Â/\gz X.K fd ps [])(hx:mL CX X E)(hg:Gl X x)(hi:PE X i ty)(hs:Ap i)(ha:PA X (e::es) t)
  (hd:kC x) (he:SE X e es) (kL:pL X pos es) :
  PE X (.Call (.Subscript (.Name x p) i p2) (e::es) [] pos) (JX Ϝ F E ty t):=by
 intro cn s M H Q I h;show cQ _ _ (eF (.Subscript (.Name x p) i p2) X.env >>= λfv=>md pos fv [] (jG pos (dD (e::es) X.env)) (ku pos (gA [] X.env))) _ _ s;refine cq (Ot PySem.F.slot_dict_getitem.lookup hs (vc I hg D.mgx (fX (hi cn s M H _ I h) λiv s2 hq=>?_) hd));obtain⟨y,H2,I2,ry,k,f,sp,ey,l,hf,q2⟩:=hq;subst ey;obtain⟨tk,rfl⟩:=ry;have ϖ:=D.map (P:=X.prog) I2.kIn;refine⟨ϖ.typeIs,wpAny_getItem_of (strKind_is X.prog X.w k tk) ϖ l ?_⟩;obtain⟨kk,fd,ps,Fn,hr,hk,hb⟩:=hF k f sp hf;have I3:=I2.tok (s2.toks+1);refine jH (h₀:=X.base) I.ok.mod.kin hk (fX (ha pos cn _ M H2 _ I3 q2) λus s4 ⟨vs,H4,I4,r,q⟩=>⟨I4.kIn,?_⟩) he kL;exact Gi (mQ:=[]) (S:=[]) Fn hr hb .nil hx I4 r (by rw[dA];exact q)
end
variable {i:Nat}{it l1 l2:cr}
section
variable {prog:eu}{w:dP}{A:dQ}{z TI TO i1 i2:cr}{xs ys:Array cj}{k1 k2:Nat}
theorem X3 {t:cr}{x:cj}(hit:s.heap.IsTupleIter it t i)(ht:s.heap.IsTuple t ys)(hx:ys[i]?=U x)
  (hQ:∀h',h'.IsTupleIter it t (i+1)->ip it s.heap h'->Q x { s with heap:=h' }):cQ (c8 prog w) A (Builtin.SmallTypes.nextOf (.ref it)) Q E s:=by
 obtain⟨o,ho,hc,hd⟩:=id hit;obtain⟨ol,Jc,_,nl,BE⟩:=ht;unfold Builtin.SmallTypes.nextOf;refine cq (wpAny_callSpecial?_slot (name:=Str.ofString "__next__") hit.typeIs F.slot_tuple_iterator_next (wpAny_call_entry F.slot_tuple_iterator_next hit.typeIs F.entry_tuple_iterator_next ?_ (F.args_tuple_iterator_next_1 _)));show cQ _ _ (field (.ref it) 0 >>= _) _ _ s;refine cq (wpAny_field ho hd (x:=.ref t) rfl ?_);show cQ _ _ (if(cj.ref t==cj.none)=Â then _ else _) _ _ s;rw[if_neg (show¬((cj.ref t==cj.none)=Â)from cI)];show cQ _ _ (field (.ref it) 1 >>= _) _ _ s;refine cq (wpAny_field ho hd (x:=.int i 0) rfl ?_);show cQ _ _ (seqItems? (.ref t) >>= _) _ _ s;refine cq (wpAny_seqItems Jc BE ?_);simp only[fC,hx];refine cq (wpAny_setField ho hd (by simp) (cP ⟨x,rfl,cP (hQ _ ?_ (ip.update ..))⟩));exact⟨_,wA _ ho (iZ.isFreed_of_fields (iZ.data_mapFields hd _)),(iZ.cls_mapFields ..).trans hc,by rw[iZ.data_mapFields hd];simp[rawInt]⟩
theorem Ź {t:cr}(hh:A.handled=L)(hit:s.heap.IsTupleIter it t i)(ht:s.heap.IsTuple t ys)(hx:ys[i]?=L)
  (hE:∀h' e,cM.ExtBut it s.heap h'->(∃o,h'.get? e=U o/\o.cls=.type "StopIteration")->E (.ref e) { s with heap:=h' }):cQ (c8 prog w) A (Builtin.SmallTypes.nextOf (.ref it)) Q E s:=by
 obtain⟨o,ho,hc,hd⟩:=id hit;obtain⟨ol,Jc,_,nl,BE⟩:=ht;unfold Builtin.SmallTypes.nextOf;refine cq (wpAny_callSpecial?_slot (name:=Str.ofString "__next__") hit.typeIs F.slot_tuple_iterator_next (wpAny_call_entry F.slot_tuple_iterator_next hit.typeIs F.entry_tuple_iterator_next ?_ (F.args_tuple_iterator_next_1 _)));show cQ _ _ (field (.ref it) 0 >>= _) _ _ s;refine cq (wpAny_field ho hd (x:=.ref t) rfl ?_);show cQ _ _ (if(cj.ref t==cj.none)=Â then _ else _) _ _ s;rw[if_neg (show¬((cj.ref t==cj.none)=Â)from cI)];show cQ _ _ (field (.ref it) 1 >>= _) _ _ s;refine cq (wpAny_field ho hd (x:=.int i 0) rfl ?_);show cQ _ _ (seqItems? (.ref t) >>= _) _ _ s;refine cq (wpAny_seqItems Jc BE ?_);simp only[fC,hx];refine cq (wpAny_rule (cq (wpAny_setField ho hd (by simp) ?_)));show cQ _ _ (newExc (.type "StopIteration") [] >>= _) _ _ _;refine cq ?_;simp only[newExc,newTuple];refine cq (gU ?_ (by size_fits));refine cq (m:=firstArgMember _ _) (wpAny_of_eq (a:=cj.none) (by first|rfl|(simp only[firstArgMember];rfl)) ?_);refine gU ?_ (by size_fits);simp only[raiseNew];refine cq (wpAny_handled ?_)
 first|rw[show A.in1.handled=L from hh]|rw[hh]
 exact cq (cP (wpAny_throw (hE _ _ (((ip.update ..).extBut.push _).push _) ⟨_,dc _ rfl,rfl⟩)))
theorem X4 {x y a b:cj}(D:ZipApart z TI TO i1 i2 l1 l2)
    (hz:IsZip s.heap z TI TO .none) (C4:IsPair s.heap TI (.ref i1) (.ref i2)) (C5:IsPair s.heap TO a b)
    (h1:s.heap.IsListIter i1 l1 k1) (h2:s.heap.IsTupleIter i2 l2 k2) (Ag:s.heap.IsList l1 xs) (vR:s.heap.IsTuple l2 ys) (hx:xs[k1]?=U x) (hy:ys[k2]?=U y)
    (hQ:∀h',IsZip h' z TI TO (rawInt s.heap.objs.size)->IsPair h' TO x y->h'.IsListIter i1 l1 (k1+1)->h'.IsTupleIter i2 l2 (k2+1)->IsPair h' s.heap.objs.size x y ->
      (∀c o,c≠z->c≠TO->c≠i1->c≠i2->s.heap.get? c=U o->h'.get? c=U o)->Q (.ref s.heap.objs.size) { s with heap:=h' }) :
    cQ (c8 prog w) A (Builtin.«zip.__next__» ⟨[.ref z],[]⟩) (λfin s'=>∃v,fin=.done (.ret v)/\Q v s') E s:=by
  show cQ _ _ (field (.ref z) 2 >>= _) _ _ _;refine cq (wpAny_field hz rfl (x:=.bool Ã) rfl ?_);show cQ _ _ (field (.ref z) 3 >>= _) _ _ _;refine cq (wpAny_field hz rfl (x:=.ref TI) rfl ?_);refine cq (wpAny_seqItems C4 rfl ?_);refine cq ?_;unfold Builtin.SmallTypes.ownedTupleIsFree;refine cq (wpAny_field hz rfl (x:=.none) rfl (cP ?_));simp only[if_true];refine cq (wpAny_rule ?_);refine cq (wpAny_field hz rfl (x:=.ref TO) rfl ?_);refine cq (wpAny_setField_rec hz (by simp) λg1 z1 q1=>?_);replace z1:IsZip g1 z TI TO .ellipsis:=z1;refine cq ?_;simp only[rP,Bc,lD,o8];refine cq (cq (wpAny_onRaise ?_));refine cq (wpAny_nextOf_list_item (h1.extBut q1.extBut D.i1z) (Ag.extBut q1.extBut D.l1z) hx λg2 e2 q2=>cP ?_);have o2:IsPair g2 TO a b:=q2.extBut _ _ D.TOi1 (q1.extBut _ _ D.TOz C5);refine cq (wpAny_seqItems o2 rfl ?_);refine cq (wpAny_updateSeq_pair o2 λg3 o3 q3=>?_);replace o3:IsPair g3 TO x b:=o3;refine cq (wpAny_letGo (cP ?_));refine cq (cq (wpAny_onRaise ?_));refine cq (X3 (((h2.extBut q1.extBut D.i2z).extBut q2.extBut D.i12.symm).extBut q3.extBut D.TOi2.symm) (((vR.extBut q1.extBut D.l2z).extBut q2.extBut D.l2i1).extBut q3.extBut D.l2TO) hy λg4 e4 q4=>cP ?_);have o4:IsPair g4 TO x b:=q4.extBut _ _ D.TOi2 o3;refine cq (wpAny_seqItems o4 rfl ?_);refine cq (wpAny_updateSeq_pair o4 λg5 o5 q5=>?_);replace o5:IsPair g5 TO x y:=o5;refine cq (wpAny_letGo (cP (cP ?_)));refine cq (wpAny_seqItems o5 rfl ?_);refine cq (wpAny_newTuple ?_);have hsz:g5.objs.size=s.heap.objs.size:=by rw[q5.1,q4.1,q3.1,q2.1,q1.1]
  have z5:IsZip g5 z TI TO .ellipsis:=q5.extBut _ _ D.TOz.symm (q4.extBut _ _ D.i2z.symm (q3.extBut _ _ D.TOz.symm (q2.extBut _ _ D.i1z.symm z1)));have k5:∀c o,c≠z->c≠TO->c≠i1->c≠i2->s.heap.get? c=U o->g5.get? c=U o:=λc o c1 c2 c3 c4 e=>q5.extBut _ _ c2 (q4.extBut _ _ c4 (q3.extBut _ _ c2 (q2.extBut _ _ c3 (q1.extBut _ _ c1 e))));have f1:g5.IsListIter i1 l1 (k1+1):=((e2.extBut q3.extBut D.TOi1.symm).extBut q4.extBut D.i12).extBut q5.extBut D.TOi1.symm;have f2:g5.IsTupleIter i2 l2 (k2+1):=e4.extBut q5.extBut D.TOi2.symm;have Fm:z<g5.objs.size:=cF z5;show cQ _ _ (Builtin.SmallTypes.ownedTupleHandOut (.ref z) (.ref g5.objs.size) >>= _) _ _ _;refine cq ?_;unfold Builtin.SmallTypes.ownedTupleHandOut;have z6:IsZip (g5.push { cls:=.type "tuple",data:=.seq #[x,y] }) z TI TO .ellipsis:=cw _ z5;refine cq (wpAny_setField_rec z6 (by simp) λg7 z7 q7=>?_);replace z7:IsZip g7 z TI TO (rawInt g5.objs.size):=z7;refine wpAny_setField_rec z7 (by simp) λg8 z8 q8=>?_;replace z8:IsZip g8 z TI TO (rawInt g5.objs.size):=z8;have up:∀c o,c≠z->g5.get? c=U o->g8.get? c=U o:=λc o c1 e=>q8.extBut _ _ c1 (q7.extBut _ _ c1 (cw _ e));have t8:IsPair g8 g5.objs.size x y:=q8.extBut _ _ (kE Fm) (q7.extBut _ _ (kE Fm) (dc _ rfl));rw[hsz]at z8 t8;refine cP ⟨_,rfl,?_⟩;show Q (.ref g5.objs.size) _;rw[hsz];obtain⟨oo,oe,oc,od⟩:=f2;exact hQ g8 z8 (up _ _ D.TOz o5) (f1.at λo e=>up _ o D.i1z e) ⟨oo,up _ _ D.i2z oe,oc,od⟩ t8 λc o c1 c2 c3 c4 e=>up c o c1 (k5 c o c1 c2 c3 c4 e)
theorem Ÿ {a b:cj}{Q:Fin->cE->Prop}(hh:A.handled=L)(D:ZipApart z TI TO i1 i2 l1 l2)
  (hz:IsZip s.heap z TI TO .none) (C4:IsPair s.heap TI (.ref i1) (.ref i2)) (C5:IsPair s.heap TO a b)
  (h1:s.heap.IsListIter i1 l1 k1) (h2:s.heap.IsTupleIter i2 l2 k2) (Ag:s.heap.IsList l1 xs) (vR:s.heap.IsTuple l2 ys) (C8:xs[k1]?=L\/ys[k2]?=L)
  (hE:∀h' e,(∀c o,c≠z->c≠TO->c≠i1->c≠i2->s.heap.get? c=U o->h'.get? c=U o)->(∃o,h'.get? e=U o/\o.cls=.type "StopIteration")->E (.ref e) { s with heap:=h' }) :
  cQ (c8 prog w) A (Builtin.«zip.__next__» ⟨[.ref z],[]⟩) Q E s:=by
 show cQ _ _ (field (.ref z) 2 >>= _) _ _ _;refine cq (wpAny_field hz rfl (x:=.bool Ã) rfl ?_);show cQ _ _ (field (.ref z) 3 >>= _) _ _ _;refine cq (wpAny_field hz rfl (x:=.ref TI) rfl ?_);refine cq (wpAny_seqItems C4 rfl ?_);refine cq ?_;unfold Builtin.SmallTypes.ownedTupleIsFree;refine cq (wpAny_field hz rfl (x:=.none) rfl (cP ?_));simp only[if_true];refine cq (wpAny_rule ?_);refine cq (wpAny_field hz rfl (x:=.ref TO) rfl ?_);refine cq (wpAny_setField_rec hz (by simp) λg1 z1 q1=>?_);replace z1:IsZip g1 z TI TO .ellipsis:=z1;refine cq ?_;simp only[rP,Bc,lD,o8];refine cq (cq (wpAny_onRaise ?_));cases hx:xs[k1]? with
 |none=>
  refine cq (wpAny_nextOf_list_end hh (h1.extBut q1.extBut D.i1z) (Ag.extBut q1.extBut D.l1z) hx λg2 e q2 he=>?_);obtain⟨oe,Df,E3⟩:=he;have z2:IsZip g2 z TI TO .ellipsis:=q2 _ _ D.i1z.symm z1;have IL:e≠z:=λx=>by subst x;rw[z2]at Df;cases Df;simp at E3
  exact wpAny_setField_rec z2 (by simp) λg3 _ q3=>hE g3 e (λc o c1 _ c3 _ x=>q3.extBut _ _ c1 (q2 _ _ c3 (q1.extBut _ _ c1 x))) ⟨oe,q3.extBut _ _ IL Df,E3⟩
 |some x=>
  have hy:ys[k2]?=L:=C8.resolve_left (by rw[hx];nofun);refine cq (wpAny_nextOf_list_item (h1.extBut q1.extBut D.i1z) (Ag.extBut q1.extBut D.l1z) hx λg2 e2 q2=>cP ?_);have o2:IsPair g2 TO a b:=q2.extBut _ _ D.TOi1 (q1.extBut _ _ D.TOz C5);refine cq (wpAny_seqItems o2 rfl ?_);refine cq (wpAny_updateSeq_pair o2 λg3 o3 q3=>?_);refine cq (wpAny_letGo (cP ?_));refine cq (cq (wpAny_onRaise ?_));refine cq (Ź hh (((h2.extBut q1.extBut D.i2z).extBut q2.extBut D.i12.symm).extBut q3.extBut D.TOi2.symm) (((vR.extBut q1.extBut D.l2z).extBut q2.extBut D.l2i1).extBut q3.extBut D.l2TO) hy λg4 e q4 he=>?_);obtain⟨oe,Df,E3⟩:=he;have z4:IsZip g4 z TI TO .ellipsis:=q4 _ _ D.i2z.symm (q3.extBut _ _ D.TOz.symm (q2.extBut _ _ D.i1z.symm z1));have IL:e≠z:=λx=>by subst x;rw[z4]at Df;cases Df;simp at E3
  exact wpAny_setField_rec z4 (by simp) λg5 _ q5=>hE g5 e (λc o c1 c2 c3 c4 x=>q5.extBut _ _ c1 (q4 _ _ c4 (q3.extBut _ _ c2 (q2.extBut _ _ c3 (q1.extBut _ _ c1 x))))) ⟨oe,q5.extBut _ _ IL Df,E3⟩
theorem WN {x y a b:cj}{Q:Option cj->cE->Prop}(D:ZipApart z TI TO i1 i2 l1 l2)
  (hz:IsZip s.heap z TI TO .none) (C4:IsPair s.heap TI (.ref i1) (.ref i2)) (C5:IsPair s.heap TO a b)
  (h1:s.heap.IsListIter i1 l1 k1) (h2:s.heap.IsTupleIter i2 l2 k2) (Ag:s.heap.IsList l1 xs) (vR:s.heap.IsTuple l2 ys) (hx:xs[k1]?=U x) (hy:ys[k2]?=U y)
  (hQ:∀h',IsZip h' z TI TO (rawInt s.heap.objs.size)->IsPair h' TO x y->h'.IsListIter i1 l1 (k1+1)->h'.IsTupleIter i2 l2 (k2+1)->IsPair h' s.heap.objs.size x y ->
   (∀c o,c≠z->c≠TO->c≠i1->c≠i2->s.heap.get? c=U o->h'.get? c=U o)->Q (U (.ref s.heap.objs.size)) { s with heap:=h' }):cQ (c8 prog w) A (pyNext (.ref z)) Q E s:=by
 have hT:s.TypeIs (.ref z) "zip":=⟨_,hz,rfl⟩;unfold pyNext;exact cq (wpAny_attempt (wpAny_callSpecial?_slot (name:=Str.ofString "__next__") hT F.slot_zip_next (wpAny_call_entry F.slot_zip_next hT F.entry_zip_next
   (X4 D hz C4 C5 h1 h2 Ag vR hx hy λh' a1 a2 a3 a4 a5 a6=>cP (hQ h' a1 a2 a3 a4 a5 a6)) (F.args_zip_next_1 _))))
theorem X5 {a b:cj}{Q:Option cj->cE->Prop}(hh:A.handled=L)(D:ZipApart z TI TO i1 i2 l1 l2)
  (hz:IsZip s.heap z TI TO .none) (C4:IsPair s.heap TI (.ref i1) (.ref i2)) (C5:IsPair s.heap TO a b)
  (h1:s.heap.IsListIter i1 l1 k1) (h2:s.heap.IsTupleIter i2 l2 k2) (Ag:s.heap.IsList l1 xs) (vR:s.heap.IsTuple l2 ys) (C8:xs[k1]?=L\/ys[k2]?=L)
  (hQ:∀h',(∀c o,c≠z->c≠TO->c≠i1->c≠i2->s.heap.get? c=U o->h'.get? c=U o)->Q L { s with heap:=h' }):cQ (c8 prog w) A (pyNext (.ref z)) Q E s:=by
 have hT:s.TypeIs (.ref z) "zip":=⟨_,hz,rfl⟩;unfold pyNext;refine cq (wpAny_attempt (wpAny_callSpecial?_slot (name:=Str.ofString "__next__") hT F.slot_zip_next (wpAny_call_entry F.slot_zip_next hT F.entry_zip_next (Ÿ hh D hz C4 C5 h1 h2 Ag vR C8 λh' e hk he=>?_) (F.args_zip_next_1 _))));obtain⟨o,ho,hc⟩:=he;exact cq (wpAny_isInstance (T:="StopIteration") (b:=true) ⟨o,ho,hc⟩ isSubtype_stop (cP (hQ _ hk)))
end
noncomputable abbrev Gz (l:cr):iZ:={ cls:=.type "list_iterator",data:=.fields #[.ref l,.int 0 0] }
noncomputable abbrev Y3 (l:cr):iZ:={ cls:=.type "tuple_iterator",data:=.fields #[.ref l,.int 0 0] }
abbrev Ia (h:cM)(l1 l2:cr):cM:=(h.push (Gz l1)).push (Y3 l2)
abbrev Ib (h:cM)(l1 l2:cr):cM:=(Ia h l1 l2).push { cls:=.type "tuple",data:=.seq #[.ref h.objs.size,.ref (h.push (Gz l1)).objs.size] }
abbrev Ie (h:cM)(l1 l2:cr):cM:=(Ib h l1 l2).push { cls:=.type "tuple",data:=.seq #[.none,.none] }
abbrev Ez (h:cM)(l1 l2:cr):cM:=(Ie h l1 l2).push { cls:=.type "zip",data:=.fields #[.none,.bool Ã,.bool Ã,.ref (Ia h l1 l2).objs.size,.ref (Ib h l1 l2).objs.size] }
theorem WO (l1 l2:cr)(xs ys:Array cj) :
  Meets (Builtin.«zip.__new__» ⟨[.type "zip",.ref l1,.ref l2],[]⟩) (λ_ R s=>s.heap.IsList l1 xs/\s.heap.IsTuple l2 ys/\R (.ok (.ret (.ref (Ie s.heap l1 l2).objs.size))) { s with heap:=Ez s.heap l1 l2 }) :=
 .of_wp λprog w A R s h=>by
  obtain⟨hp,g,d,tk,os⟩:=s;obtain⟨Ag,vR,h⟩:=h;have Jf:=sub_zip;have Q7:cM.IsList (cE.heap ⟨hp,g,d,tk,os⟩) l1 xs:=Ag;have Q8:cM.IsTuple (cE.heap ⟨hp.push (Gz l1),g,d,tk,os⟩) l2 ys:=cM.IsTuple.push vR _
  wp_walk using tH Q7,wpAny_pyIter_tuple Q8
  exact⟨_,rfl,h⟩
theorem X6 {prog:eu}{w:dP}{A:dQ}{xs ys:Array cj}(Ag:s.heap.IsList l1 xs)(vR:s.heap.IsTuple l2 ys)
  (h:∀h',IsZip h' (s.heap.objs.size+4) (s.heap.objs.size+2) (s.heap.objs.size+3) .none->IsPair h' (s.heap.objs.size+2) (.ref s.heap.objs.size) (.ref (s.heap.objs.size+1)) ->
   IsPair h' (s.heap.objs.size+3) .none .none->h'.IsListIter s.heap.objs.size l1 0->h'.IsTupleIter (s.heap.objs.size+1) l2 0->(∀c o,s.heap.get? c=U o->h'.get? c=U o)->Q (.ref (s.heap.objs.size+4)) { s with heap:=h' }) :
  cQ (c8 prog w) A (call (.type "zip") [.ref l1,.ref l2]) Q E s:=by
 refine callType_new F.called_zip (by decide) (F.typeCall_zip_2 _ _) (F.newCall_zip_2 _ _) (λobj=>F.args_object_init_3 obj _ _) F.entry_zip_new (WO l1 l2 xs ys) ⟨Ag,vR,?_⟩;have z1:(s.heap.push (Gz l1)).objs.size=s.heap.objs.size+1:=gu ..;have z2:(Ia s.heap l1 l2).objs.size=s.heap.objs.size+2:=by rw[gu,z1]
 have z3:(Ib s.heap l1 l2).objs.size=s.heap.objs.size+3:=by rw[gu,z2]
 have z4:(Ie s.heap l1 l2).objs.size=s.heap.objs.size+4:=by rw[gu,z3]
 have g5:(Ez s.heap l1 l2).get? (Ie s.heap l1 l2).objs.size=U _:=dc _ rfl;have g4:(Ez s.heap l1 l2).get? (Ib s.heap l1 l2).objs.size=U _:=cw _ (dc _ rfl);have g3:(Ez s.heap l1 l2).get? (Ia s.heap l1 l2).objs.size=U _:=cw _ (cw _ (dc _ rfl));have g2:(Ez s.heap l1 l2).get? (s.heap.push (Gz l1)).objs.size=U _:=cw _ (cw _ (cw _ (dc _ rfl)));have g1:(Ez s.heap l1 l2).get? s.heap.objs.size=U _:=cw _ (cw _ (cw _ (cw _ (dc _ rfl))));show _/\_;rw[z2,z3,z4]at g5;rw[z1,z2]at g3;rw[z3]at g4;rw[z1]at g2;rw[z4];exact⟨⟨_,g5,rfl⟩,h _ g5 g3 g4 ⟨_,g1,rfl,rfl⟩ ⟨_,g2,rfl,rfl⟩ λc o x=>cw _ (cw _ (cw _ (cw _ (cw _ x))))⟩
def LI (K:cm)(a b:cr):It :=
 ⟨λi H=>∃xs ys x y,(ir K H a xs/\nG K H b ys)/\xs[i]?=U x/\ys[i]?=U y,λi H x H'=>∃p u v,H p=L/\x=.ref p/\H'=upd H p (.tup [u,v])/\(∀xs,ir K H a xs->xs[i]?=U u)/\∀ys,nG K H b ys->ys[i]?=U v,
  λi H=>∃xs ys,(ir K H a xs/\nG K H b ys)/\(xs.length<=i\/ys.length<=i)⟩
variable {qS:List Expr}{kt:Nat}
theorem Yz {w:dP}{K:cm}{pt:oj}(z TI TO i1 i2 l1 l2:cr)(ap:ZipApart z TI TO i1 i2 l1 l2) :
    ù P w K (.Tuple qS kt pt) (LI K l1 l2) [z,TI,TO,i1,i2] z (λi h=>IsZip h z TI TO .none/\IsPair h TI (.ref i1) (.ref i2)/\(∃a b,IsPair h TO a b)/\h.IsListIter i1 l1 i/\h.IsTupleIter i2 l2 i) where
  mem:=by simp
  obj:=λi h st b hb=>by
    obtain⟨q1,q2,⟨a,b',q3⟩,⟨o4,e4,_,d4⟩,⟨o5,e5,_,d5⟩⟩:=st;simp only[cu,dO,or_false]at hb;rcases hb with rfl|rfl|rfl|rfl|rfl
    · exact⟨_,q1,λv y=>by cases y⟩
    · exact⟨_,q2,λv y=>by cases y⟩
    · exact⟨_,q3,λv y=>by cases y⟩
    · exact⟨_,e4,λv y=>by rw[d4]at y;cases y⟩
    · exact⟨_,e5,λv y=>by rw[d5]at y;cases y⟩
  keep:=λi h h' st k=>by obtain⟨q1,q2,⟨a,b',q3⟩,q4,o5,e5,r5⟩:=st;exact⟨k z (by simp) _ q1,k TI (by simp) _ q2,⟨a,b',k TO (by simp) _ q3⟩,q4.at λo x=>k i1 (by simp) o x,o5,k i2 (by simp) _ e5,r5⟩
  item:=by
    intro X hP hw hK hc i cn s M H E I hf st hg;subst hP hw hK;obtain⟨xs,ys,x,y,⟨hq,uO⟩,hx,hy⟩:=hg;obtain⟨dZ,rv,p,hz⟩:=I.list hq;obtain⟨its',BY,p',Bq⟩:=I.tuple uO;obtain⟨u,hu,ru⟩:=rv.get hx;obtain⟨u',D3,JQ⟩:=BY.get hy;obtain⟨q1,q2,⟨a,b',q3⟩,q4,q5⟩:=st;refine WN ap q1 q2 q3 q4 q5 p.isList (show s.heap.IsTuple l2 its'.toArray from p') (x:=u) (y:=u') (by simpa using hu) (by simpa using D3) λh1 r1 r2 r3 r4 r5 hk=>?_;refine⟨_,rfl,wpAny_letOwnedTupleGo_zip (s:={ s with heap:=h1 }) r1 λh2 E7 vX=>?_⟩;have Gy:z<s.heap.objs.size:=cF q1;have Ka:TI<s.heap.objs.size:=cF q2;have JH:TO<s.heap.objs.size:=cF q3;have Fv:i1<s.heap.objs.size:=by obtain⟨_,q,_⟩:=q4;exact cF q
    have Js:i2<s.heap.objs.size:=by obtain⟨_,q,_⟩:=q5;exact cF q
    have EY:h2.get? s.heap.objs.size=U { cls:=.type "tuple",data:=.seq #[u,u'] }:=(vX.2 _ (kE Gy)).trans r5;have E8:H s.heap.objs.size=L:=I.hok.fresh (cH _);have I1:Ë X cn M (upd H s.heap.objs.size (.tup [x,y])) { s with heap:=h2,toks:=s.toks }:=by refine I.turnLay (ch:=[z,TI,TO,i1,i2]) hf (λb o hb q=>?_) (cH _) ⟨by show 2<=sizeLine;decide,[u,u'],.cons ru (.cons JQ .nil),_,EY,rfl,_,rfl⟩;have b1:b≠z:=λe=>hb (by simp[e]);exact(vX.2 b b1).trans (hk b o b1 (λe=>hb (by simp[e])) (λe=>hb (by simp[e])) (λe=>hb (by simp[e])) q)
    obtain⟨o4,e4,c4⟩:=r4;refine⟨.ref s.heap.objs.size,_,I1,rfl,⟨_,x,y,E8,rfl,rfl,λzs Dg=>by rw[I.list_inj Dg hq];exact hx,λzs Dg=>by rw[I.tuple_inj Dg uO];exact hy⟩,⟨E7,(vX.2 TI ap.TIz).trans (hk TI _ ap.TIz ap.TITO ap.TIi1 ap.TIi2 q2),⟨_,_,(vX.2 TO ap.TOz).trans r2⟩,r3.at λo q=>(vX.2 i1 ap.i1z).trans q,o4,(vX.2 i2 ap.i2z).trans e4,c4⟩,λb hb=>?_⟩;rw[zm ?_]
    · exact(hf b hb).1
    · simp only[cu,dO,or_false]at hb;rcases hb with rfl|rfl|rfl|rfl|rfl
      · exact dg Gy
      · exact dg Ka
      · exact dg JH
      · exact dg Fv
      · exact dg Js
  done:=by intro X hP hw hK hc i cn s M H E I hf st hg;subst hP hw hK;obtain⟨xs,ys,⟨hq,uO⟩,hx⟩:=hg;obtain⟨dZ,rv,p,hz⟩:=I.list hq;obtain⟨its',BY,p',Bq⟩:=I.tuple uO;obtain⟨q1,q2,⟨a,b',q3⟩,q4,q5⟩:=st;have hl:=rv.length;have BG:=BY.length;refine X5 (I.ok.hd hc) ap q1 q2 q3 q4 q5 p.isList (show s.heap.IsTuple l2 its'.toArray from p') (hx.imp (λh=>by simp;omega) (λh=>by simp;omega)) λh' eb=>⟨rfl,I.turnedL (ch:=[z,TI,TO,i1,i2]) (t':=s.toks) hf λb o hb q=>?_⟩;exact eb b o (λe=>hb (by simp[e])) (λe=>hb (by simp[e])) (λe=>hb (by simp[e])) (λe=>hb (by simp[e])) q
  self:=λ_ _ _ _ _ st h=>oS st.1 h
variable {l:Expr}
section
variable {pt:oj}
def RX (K:cm)(ta:TA):TI:=λM H R=>ta M H λvs H1=>∃a b,vs=[.ref a,.ref b]/\(∃xs ys,ir K H1 a xs/\nG K H1 b ys)/\R (LI K a b) H1
theorem œ {l':Expr}{ta:TA}(hg:Gl X "zip")(hm:X.mg "zip"=L)(ha:PA X [l,l'] ta)(hs:dD [l,l'] X.env=[(Ã,eF l X.env),(Ã,eF l' X.env)]:=by rfl)(tS:SN X l':=by rfl) :
  PI X (.Tuple qS kt pt) (.Call (.Name "zip" p) [l,l'] [] pos) (RX X.K ta):=by
 intro cn s M H R I h;refine Call_ (j9 I hg hm si (eT (fX (ha pos cn s M H _ I h) λus s1 ⟨vs,H1,I1,r1,q1⟩=>?_) (by rw[hs,tS]) (by rw[tS];rfl)));obtain⟨a,b,e,⟨xs,ys,hq,uO⟩,q⟩:=q1;subst e;cases r1 with
 |cons r rr=>
  cases rr with
  |cons r' rr=>
   cases rr;cases r;cases r';obtain⟨dZ,rv,pl,hz⟩:=I1.list hq;obtain⟨its',BY,FJ,Bq⟩:=I1.tuple uO;have Jw:a<s1.heap.objs.size:=by obtain⟨_,q,_⟩:=pl.isList;exact cF q
   have Dk:b<s1.heap.objs.size:=by obtain⟨_,q,_⟩:=FJ;exact cF q
   refine X6 pl.isList (show s1.heap.IsTuple b its'.toArray from FJ) λh' r1 r2 r3 r4 r5 hk=>?_;refine oS (s:={ s1 with heap:=h' }) r1 ?_;refine⟨_,[_,_,_,_,_],_,_,H1,rfl,I1.kept (t':=s1.toks) hk,(Yz _ _ _ _ _ a b (zipApart_new Jw Dk)).ok,⟨r1,r2,⟨_,_,r3⟩,r4,r5⟩,λc hb=>?_,q⟩;have:s1.heap.objs.size<=c:=by simp only[cu,dO,or_false]at hb;rcases hb with rfl|rfl|rfl|rfl|rfl<;>omega
   exact I1.fpOk this (I1.hok.fresh this)
end
variable {tg:Expr}
variable {f:cr}{fd:cz}{ps:List Str}{sp:Sp}
end L2
namespace Fq
noncomputable def dv (t b:Int):Int:=if b<0 then -((Int.gcd t b:Nat):Int)else((Int.gcd t b:Nat):Int)
def mk (t b:Int):Int×Int:=(t.fdiv (dv t b),b.fdiv (dv t b))
end Fq
namespace L3
open PySem PySem.Spec L2
open PyProof.Rows hiding St
inductive D where
 |non|bl (b:Bool)|int (i:Int)|str (x:Str)
 |lst (xs:List D)|tup (xs:List D)|dK (ks:List i6) (S:List D)|dT (ks:List (List i6)) (S:List D)
 |obj (c:Nat) (ns:List Str) (S:List D)
 |exc (c:Nat) (ns:List Str) (S:List D)
 |kt (xs:List D)
 deriving Inhabited
class inductive Pr (R:D->V->Prop):List D->List V->Prop
 |nil:Pr R [] []
 |cons {d:D} {v:V} {S:List D} {vs:List V}:R d v->Pr R S vs->Pr R (d::S) (v::vs)
variable {R:D->V->Prop}{S:List D}
theorem Pr.mono {R':D->V->Prop}(f:∀d v,R d v->R' d v){vs:List V}(h:Pr R S vs):Pr R' S vs:=by
 induction h with
 |nil=>exact .nil
 |cons h t ih=>exact .cons (f _ _ h) ih
theorem Pr.length {vs:List V}(h:Pr R S vs):S.length=vs.length:=by
 induction h with
 |nil=>rfl
 |cons h t ih=>rw[cB,cB,ih]
variable {d:D}{i:Nat}
theorem Pr.get' {vs:List V}(h:Pr R S vs)(e:S[i]?=U d):∃v,vs[i]?=U v/\R d v:=by
 induction h generalizing i with
 |nil=>cases e
 |cons h t ih=>
  cases i with
  |zero=>cases e;exact⟨_,rfl,h⟩
  |succ i=>exact ih e
variable {us:List V}
theorem Pr.append {es:List D}{vs:List V}(h:Pr R S vs)(s:Pr R es us):Pr R (S++es) (vs++us):=by
 induction h with
 |nil=>exact s
 |cons h t ih=>exact .cons h ih
theorem Pr.take {vs:List V}(n:Nat)(h:Pr R S vs):Pr R (S.take n) (vs.take n):=by
 induction h generalizing n with
 |nil=>cases n<;>exact .nil
 |cons h t ih=>cases n with
  |zero=>exact .nil
  |succ n=>exact .cons h (ih n)
theorem Pr.drop {vs:List V}(n:Nat)(h:Pr R S vs):Pr R (S.drop n) (vs.drop n):=by
 induction h generalizing n with
 |nil=>cases n<;>exact .nil
 |cons h t ih=>cases n with
  |zero=>exact .cons h t
  |succ n=>exact ih n
theorem Pr.rep {vs:List V}(h:Pr R S vs)(k:Nat):Pr R (cy k S).flatten (cy k vs).flatten:=by
 induction k with
 |zero=>exact .nil
 |succ k ih=>rw[eO,iE,eO,iE];exact h.append ih
mutual
inductive Dt (K:cm)(G:Nat->cr)(F:Hp):D->V->Prop
 |non:Dt K G F .non .non
 |bl (b:Bool):Dt K G F (.bl b) (.bl b)
 |int (i:Int):Dt K G F (.int i) (.int i)
 |str (x:Str):Dt K G F (.str x) (.str x)
 |lst {a:cr} {vs:List V} {S:List D}:ir K F a vs->ç K G F S vs->Dt K G F (.lst S) (.ref a)
 |tup {a:cr} {vs:List V} {S:List D}:F a=U (.tup vs)->ç K G F S vs->Dt K G F (.tup S) (.ref a)
 |dK {a:cr} {ks:List i6} {vs:List V} {S:List D}:F a=U (.dK (ks.zip vs))->ks.length=vs.length->ç K G F S vs->Dt K G F (.dK ks S) (.ref a)
 |dT {a:cr} {ks:List (List i6)} {vs:List V} {S:List D}:Rd F a (.dT (ks.zip vs))->ks.length=vs.length->ç K G F S vs->Dt K G F (.dT ks S) (.ref a)
 |obj {a dx:cr} {c:Nat} {ns:List Str} {vs:List V} {S:List D}:F a=U (.ins (G c) dx (ns.zip vs))->ns.length=vs.length->ç K G F S vs->Dt K G F (.obj c ns S) (.ref a)
 |exc0 {a:cr} {c:Nat} {tb:Option cr}:F a=U (MM a (G c) L tb)->Dt K G F (.exc c [] []) (.ref a)
 |exc {a dx:cr} {c:Nat} {tb:Option cr} {ns:List Str} {vs:List V} {S:List D}:F a=U (MM a (G c) (U dx) tb)->F dx=U (.xd (ns.zip vs))->ns.length=vs.length->ç K G F S vs->Dt K G F (.exc c ns S) (.ref a)
 |kt {a:cr} {vs:List V} {S:List D}:ED K a vs->ç K G F S vs->Dt K G F (.kt S) (.ref a)
inductive ç (K:cm)(G:Nat->cr)(F:Hp):List D->List V->Prop
 |nil:ç K G F [] []
 |cons {d:D} {v:V} {S:List D} {vs:List V}:Dt K G F d v->ç K G F S vs->ç K G F (d::S) (v::vs)
end
variable {B B' F F' Ϙ G' H H':Hp}{K:cm}{G:Nat->cr}
theorem ç.pr {vs:List V}(h:ç K G F S vs):Pr (Dt K G F) S vs:=by
 induction S generalizing vs with
 |nil=>cases h;exact .nil
 |cons d S ih=>cases h with|cons h t=>exact .cons h (ih t)
theorem ç.of {vs:List V}(h:Pr (Dt K G F) S vs):ç K G F S vs:=by
 induction h with
 |nil=>exact .nil
 |cons h t ih=>exact .cons h ih
theorem Dt.mono (s:dJ F F'){v:V}(h:Dt K G F d v):Dt K G F' d v :=
 Dt.rec (motive_1:=λd v _=>Dt K G F' d v) (motive_2:=λd v _=>ç K G F' d v) .non .bl .int .str (λh _ t=>.lst (s.seq h) t) (λh _ t=>.tup (s _ _ h) t) (λh l _ t=>.dK (s _ _ h) l t) (λh l _ t=>.dT (s.rd h) l t) (λh l _ t=>.obj (s _ _ h) l t) (λh=>.exc0 (s _ _ h)) (λh h' l _ t=>.exc (s _ _ h) (s _ _ h') l t) (λh _ t=>.kt h t) .nil (λ_ _ h t=>.cons h t) h
noncomputable def D.sc:D->Bool
 |.non=>Â|.bl _=>Â|.int _=>Â|.str _=>Â|_=>Ã
class inductive DP (K:cm)(G:Nat->cr)(F Ϙ:Hp)(R:D->V->Prop):D->V->Prop
 |lst {a:cr} {vs:List V} {S:List D}:Ϙ a=U (.lst vs)->Pr R S vs->DP K G F Ϙ R (.lst S) (.ref a)
 |tup {a:cr} {vs:List V} {S:List D}:F a=U (.tup vs)->Pr R S vs->DP K G F Ϙ R (.tup S) (.ref a)
 |dK {a:cr} {ks:List i6} {vs:List V} {S:List D}:Ϙ a=U (.dK (ks.zip vs))->ks.length=vs.length->Pr R S vs->DP K G F Ϙ R (.dK ks S) (.ref a)
 |dT {a:cr} {ks:List (List i6)} {vs:List V} {S:List D}:Rd Ϙ a (.dT (ks.zip vs))->ks.length=vs.length->Pr R S vs->DP K G F Ϙ R (.dT ks S) (.ref a)
 |obj {a dx:cr} {c:Nat} {ns:List Str} {vs:List V} {S:List D}:Ϙ a=U (.ins (G c) dx (ns.zip vs))->ns.length=vs.length->Pr R S vs->DP K G F Ϙ R (.obj c ns S) (.ref a)
def Al (K:cm)(G:Nat->cr)(F Ϙ:Hp):Nat->D->V->Prop
 |0,d,v=>Dt K G F d v
 |n+1,d,v=>Dt K G F d v\/DP K G F Ϙ (Al K G F Ϙ n) d v
class inductive iF (R:D->V->List cr->Prop):List D->List V->List cr->Prop
 |nil:iF R [] [] []
 |cons {d:D} {v:V} {S:List D} {vs:List V} {f g:List cr}:R d v f->iF R S vs g->iF R (d::S) (v::vs) (f++g)
class inductive Aq (K:cm)(G:Nat->cr)(F H:Hp)(R:D->V->List cr->Prop):D->V->List cr->Prop
 |lst {a:cr} {vs:List V} {S:List D} {fp:List cr}:F a=L->H a=U (.lst vs)->iF R S vs fp->Aq K G F H R (.lst S) (.ref a) (a::fp)
 |tup {a:cr} {vs:List V} {S:List D} {fp:List cr}:F a=U (.tup vs)->iF R S vs fp->Aq K G F H R (.tup S) (.ref a) fp
 |dK {a:cr} {ks:List i6} {vs:List V} {S:List D} {fp:List cr}:F a=L->H a=U (.dK (ks.zip vs))->ks.length=vs.length->iF R S vs fp->Aq K G F H R (.dK ks S) (.ref a) (a::fp)
 |dT {a:cr} {ks:List (List i6)} {vs:List V} {S:List D} {fp:List cr}:F a=L->H a=U (.dT (ks.zip vs))->ks.length=vs.length->iF R S vs fp->Aq K G F H R (.dT ks S) (.ref a) (a::fp)
 |obj {a dx:cr} {c:Nat} {ns:List Str} {vs:List V} {S:List D} {fp:List cr}:F a=L->H a=U (.ins (G c) dx (ns.zip vs))->ns.length=vs.length->iF R S vs fp->Aq K G F H R (.obj c ns S) (.ref a) (a::fp)
def Ow (K:cm)(G:Nat->cr)(F H:Hp):Nat->D->V->List cr->Prop
 |0,d,v,fp=>Dt K G F d v/\fp=[]
 |n+1,d,v,fp=>(d.sc=Â/\Dt K G F d v/\fp=[])\/Aq K G F H (Ow K G F H n) d v fp
def mK (o:HO):Prop:=∀xs,o≠.tup xs
structure kx (F H F' H':Hp):Prop where
 ff:dJ F F'
 hh:dJ H H'
 fh:dJ F' H'
 nf:∀a o,H a=U o->mK o->F a=L->F' a=L
theorem kx.refl (h:dJ F H):kx F H F H:=⟨.refl _,.refl _,h,λ_ _ _ _ h=>h⟩
theorem kx.trans {F1 H1 F2 H2:Hp}(a:kx F H F1 H1)(b:kx F1 H1 F2 H2):kx F H F2 H2 :=
 ⟨a.ff.trans b.ff,a.hh.trans b.hh,b.fh,λc o h t n=>b.nf c o (a.hh _ _ h) t (a.nf c o h t n)⟩
theorem kx.newO {p:cr}(s:dJ F H)(h:H p=L)(o:HO):kx F H F (upd H p o) :=
 ⟨.refl _,wg h o,s.trans (wg h o),λ_ _ _ _ h=>h⟩
theorem kx.newS {p:cr}(s:dJ F H)(h:H p=L)(o:HO):kx F H (upd F p o) (upd H p o) :=
  ⟨wg (s.free h) o,wg h o,λb u q=>by
    by_cases e:b=p
    · subst e;rw[zo]at q ⊢;exact q
    · rw[zm e]at q ⊢;exact s _ _ q,
   λb u q _ n=>by rw[zm (zu q h)];exact n⟩
variable {F0:Hp}{fp:List cr}{ks:List i6}{n:Nat}{x:Str}
theorem Al.mono (sF:dJ F F')(sG:dJ Ϙ G'):∀{d:D} {v:V},Al K G F Ϙ n d v->Al K G F' G' n d v:=by
 induction n with
 |zero=>exactλh=>Dt.mono sF h
 |succ n ih=>
  intro d v h;rcases h with h|h
  ·exact .inl (Dt.mono sF h)
  ·cases h with
   |lst h p=>exact .inr (.lst (sG _ _ h) (p.mono λ_ _ q=>ih q))
   |tup h p=>exact .inr (.tup (sF _ _ h) (p.mono λ_ _ q=>ih q))
   |dK h l p=>exact .inr (.dK (sG _ _ h) l (p.mono λ_ _ q=>ih q))
   |dT h l p=>exact .inr (.dT (sG.rd h) l (p.mono λ_ _ q=>ih q))
   |obj h l p=>exact .inr (.obj (sG _ _ h) l (p.mono λ_ _ q=>ih q))
theorem Al.of:∀{n:Nat} {d:D} {v:V},Dt K G F d v->Al K G F Ϙ n d v
 |0,_,_,h=>h
 |_+1,_,_,h=>.inl h
theorem Al.up:∀{m:Nat} {d:D} {v:V},Al K G F Ϙ n d v->n<=m->Al K G F Ϙ m d v:=by
 induction n with
 |zero=>exactλh _=>Al.of h
 |succ n ih=>
  intro m d v h l;cases m with
  |zero=>exact absurd l (by omega)
  |succ m=>
   rcases h with h|h
   ·exact .inl h
   ·cases h with
    |lst h p=>exact .inr (.lst h (p.mono λ_ _ q=>ih q (by omega)))
    |tup h p=>exact .inr (.tup h (p.mono λ_ _ q=>ih q (by omega)))
    |dK h e p=>exact .inr (.dK h e (p.mono λ_ _ q=>ih q (by omega)))
    |dT h e p=>exact .inr (.dT h e (p.mono λ_ _ q=>ih q (by omega)))
    |obj h e p=>exact .inr (.obj h e (p.mono λ_ _ q=>ih q (by omega)))
theorem Dt.scal {v:V}(h:Dt K G F d v)(hs:d.sc=Â):Dt K G F' d v:=by
 cases h with
 |non=>exact .non
 |bl b=>exact .bl b
 |int i=>exact .int i
 |str x=>exact .str x
 |lst _ _=>cases hs
 |tup _ _=>cases hs
 |dK _ _ _=>cases hs
 |dT _ _ _=>cases hs
 |obj _ _ _=>cases hs
 |exc0 _=>cases hs
 |exc _ _ _ _=>cases hs
 |kt _ _=>cases hs
theorem Al.scal {v:V}(h:Al K G F Ϙ n d v)(hs:d.sc=Â):Dt K G F' d v:=by
 cases n with
 |zero=>exact Dt.scal h hs
 |succ n=>
  rcases h with h|h
  ·exact h.scal hs
  ·cases h<;>cases hs
theorem Al.int {i:Int}{v:V}(h:Al K G F Ϙ n (.int i) v):v=.int i:=by have q:=Al.scal (F':=F) h rfl;cases q;rfl
theorem Al.bl {b:Bool}{v:V}(h:Al K G F Ϙ n (.bl b) v):v=.bl b:=by have q:=Al.scal (F':=F) h rfl;cases q;rfl
theorem Al.str {v:V}(h:Al K G F Ϙ n (.str x) v):v=.str x:=by have q:=Al.scal (F':=F) h rfl;cases q;rfl
theorem Al.non {v:V}(h:Al K G F Ϙ n .non v):v=.non:=by have q:=Al.scal (F':=F) h rfl;cases q;rfl
theorem Al.lst {v:V}(h:Al K G F Ϙ n (.lst S) v)(s:dJ F Ϙ):∃a vs,v=.ref a/\ir K Ϙ a vs/\Pr (Al K G F Ϙ (n-1)) S vs:=by
 cases n with
 |zero=>
  have h:Dt K G F (.lst S) v:=h;cases h with
  |lst q t=>exact⟨_,_,rfl,s.seq q,t.pr⟩
 |succ n=>
  rcases h with h|h
  ·cases h with
   |lst q t=>exact⟨_,_,rfl,s.seq q,t.pr.mono λ_ _=>Al.of⟩
  ·cases h with
   |lst q t=>exact⟨_,_,rfl,ir.of q,t⟩
theorem Al.tup {v:V}(h:Al K G F Ϙ n (.tup S) v)(s:dJ F Ϙ):∃a vs,v=.ref a/\Ϙ a=U (.tup vs)/\Pr (Al K G F Ϙ (n-1)) S vs:=by
 cases n with
 |zero=>
  have h:Dt K G F (.tup S) v:=h;cases h with
  |tup q t=>exact⟨_,_,rfl,s _ _ q,t.pr⟩
 |succ n=>
  rcases h with h|h
  ·cases h with
   |tup q t=>exact⟨_,_,rfl,s _ _ q,t.pr.mono λ_ _=>Al.of⟩
  ·cases h with
   |tup q t=>exact⟨_,_,rfl,s _ _ q,t⟩
theorem Al.dK {v:V}(h:Al K G F Ϙ n (.dK ks S) v)(s:dJ F Ϙ):∃a vs,v=.ref a/\Ϙ a=U (.dK (ks.zip vs))/\ks.length=vs.length/\Pr (Al K G F Ϙ (n-1)) S vs:=by
 cases n with
 |zero=>
  have h:Dt K G F (.dK ks S) v:=h;cases h with
  |dK q l t=>exact⟨_,_,rfl,s _ _ q,l,t.pr⟩
 |succ n=>
  rcases h with h|h
  ·cases h with
   |dK q l t=>exact⟨_,_,rfl,s _ _ q,l,t.pr.mono λ_ _=>Al.of⟩
  ·cases h with
   |dK q l t=>exact⟨_,_,rfl,q,l,t⟩
theorem Al.dT {ks:List (List i6)}{v:V}(h:Al K G F Ϙ n (.dT ks S) v)(s:dJ F Ϙ):∃a vs,v=.ref a/\Rd Ϙ a (.dT (ks.zip vs))/\ks.length=vs.length/\Pr (Al K G F Ϙ (n-1)) S vs:=by
 cases n with
 |zero=>
  have h:Dt K G F (.dT ks S) v:=h;cases h with
  |dT q l t=>exact⟨_,_,rfl,s.rd q,l,t.pr⟩
 |succ n=>
  rcases h with h|h
  ·cases h with
   |dT q l t=>exact⟨_,_,rfl,s.rd q,l,t.pr.mono λ_ _=>Al.of⟩
  ·cases h with
   |dT q l t=>exact⟨_,_,rfl,q,l,t⟩
theorem Al.obj {c:Nat}{ns:List Str}{v:V}(h:Al K G F Ϙ n (.obj c ns S) v)(s:dJ F Ϙ):∃a dx vs,v=.ref a/\Ϙ a=U (.ins (G c) dx (ns.zip vs))/\ns.length=vs.length/\Pr (Al K G F Ϙ (n-1)) S vs:=by
 cases n with
 |zero=>
  have h:Dt K G F (.obj c ns S) v:=h;cases h with
  |obj q l t=>exact⟨_,_,_,rfl,s _ _ q,l,t.pr⟩
 |succ n=>
  rcases h with h|h
  ·cases h with
   |obj q l t=>exact⟨_,_,_,rfl,s _ _ q,l,t.pr.mono λ_ _=>Al.of⟩
  ·cases h with
   |obj q l t=>exact⟨_,_,_,rfl,q,l,t⟩
theorem Al.kt {v:V}(h:Al K G F Ϙ n (.kt S) v):∃a vs,v=.ref a/\ED K a vs/\Pr (Dt K G F) S vs:=by
 have h:Dt K G F (.kt S) v:=by
  cases n with
  |zero=>exact h
  |succ n=>
   rcases h with h|h
   ·exact h
   ·cases h
 cases h with
 |kt q t=>exact⟨_,_,rfl,q,t.pr⟩
theorem iF.mono {R R':D->V->List cr->Prop}{vs:List V}(h:iF R S vs fp):(∀d v f,(∀a∈f,a∈fp)->R d v f->R' d v f)->iF R' S vs fp:=by
 induction h with
 |nil=>exactλ_=>.nil
 |cons h t ih=>exactλq=>.cons (q _ _ _ (λa z=>c7 _ z) h) (ih λd v f i r=>q d v f (λa z=>cC _ (i a z)) r)
theorem iF.pr {R:D->V->List cr->Prop}{R':D->V->Prop}{vs:List V}(h:iF R S vs fp):(∀d v f,(∀a∈f,a∈fp)->R d v f->R' d v)->Pr R' S vs:=by
 induction h with
 |nil=>exactλ_=>.nil
 |cons h t ih=>exactλq=>.cons (q _ _ _ (λa z=>c7 _ z) h) (ih λd v f i r=>q d v f (λa z=>cC _ (i a z)) r)
theorem iF.ofPr {R:D->V->List cr->Prop}{vs:List V}(h:Pr (λd v=>R d v []) S vs):iF R S vs []:=by
 induction h with
 |nil=>exact .nil
 |cons h t ih=>exact iF.cons (f:=[]) (g:=[]) h ih
theorem iF.append {R:D->V->List cr->Prop}{es:List D}{vs:List V}{f g:List cr}(h:iF R S vs f)(s:iF R es us g):iF R (S++es) (vs++us) (f++g):=by
 induction h with
 |nil=>exact s
 |cons h t ih=>rw[dR];exact .cons h ih
theorem iF.length {R:D->V->List cr->Prop}{vs:List V}(h:iF R S vs fp):S.length=vs.length:=by
 induction h with
 |nil=>rfl
 |cons _ t ih=>simp[ih]
theorem Ow.frame (sF:dJ F F'):∀{d:D} {v:V} {fp:List cr},Ow K G F H n d v fp->(∀a∈fp,H' a=H a/\F' a=L)->Ow K G F' H' n d v fp:=by
 induction n with
 |zero=>exactλh _=>⟨h.1.mono sF,h.2⟩
 |succ n ih=>
  intro d v fp h k;rcases h with h|h
  ·exact .inl ⟨h.1,h.2.1.mono sF,h.2.2⟩
  ·cases h with
   |lst hn h p=>exact .inr (.lst (k _ cg).2 ((k _ cg).1.trans h) (p.mono λ_ _ _ i q=>ih q λa z=>k a (ck _ (i a z))))
   |tup h p=>exact .inr (.tup (sF _ _ h) (p.mono λ_ _ _ i q=>ih q λa z=>k a (i a z)))
   |dK hn h l p=>exact .inr (.dK (k _ cg).2 ((k _ cg).1.trans h) l (p.mono λ_ _ _ i q=>ih q λa z=>k a (ck _ (i a z))))
   |dT hn h l p=>exact .inr (.dT (k _ cg).2 ((k _ cg).1.trans h) l (p.mono λ_ _ _ i q=>ih q λa z=>k a (ck _ (i a z))))
   |obj hn h l p=>exact .inr (.obj (k _ cg).2 ((k _ cg).1.trans h) l (p.mono λ_ _ _ i q=>ih q λa z=>k a (ck _ (i a z))))
theorem iF.cells0 {R:D->V->List cr->Prop}(k:∀d v f,R d v f->∀a∈f,F a=L/\∃o,H a=U o/\mK o){vs:List V}(h:iF R S vs fp):∀a∈fp,F a=L/\∃o,H a=U o/\mK o:=by
 induction h with
 |nil=>exactλa z=>by cases z
 |cons h t ih=>exactλa z=>(cW.mp z).elim (λz=>k _ _ _ h a z) (ih a)
theorem Ow.cells:∀{d:D} {v:V} {fp:List cr},Ow K G F H n d v fp->∀a∈fp,F a=L/\∃o,H a=U o/\mK o:=by
 induction n with
 |zero=>exactλh a z=>by rw[h.2]at z;cases z
 |succ n ih=>
  intro d v fp h a z;rcases h with h|h
  ·rw[h.2.2]at z;cases z
  ·cases h with
   |lst hn h p=>exact(cu.mp z).elim (λe=>by rw[e];exact⟨hn,_,h,nofun⟩) (iF.cells0 (λd v f q=>ih q) p a)
   |tup h p=>exact iF.cells0 (λd v f q=>ih q) p a z
   |dK hn h l p=>exact(cu.mp z).elim (λe=>by rw[e];exact⟨hn,_,h,nofun⟩) (iF.cells0 (λd v f q=>ih q) p a)
   |dT hn h l p=>exact(cu.mp z).elim (λe=>by rw[e];exact⟨hn,_,h,nofun⟩) (iF.cells0 (λd v f q=>ih q) p a)
   |obj hn h l p=>exact(cu.mp z).elim (λe=>by rw[e];exact⟨hn,_,h,nofun⟩) (iF.cells0 (λd v f q=>ih q) p a)
theorem Ow.ext {v:V}(h:Ow K G F H n d v fp)(e:kx F H F' H'):Ow K G F' H' n d v fp :=
 h.frame e.ff λa z=>by obtain⟨hn,o,ho,nt⟩:=h.cells a z;exact⟨(e.hh _ _ ho).trans ho.symm,e.nf a o ho nt hn⟩
theorem Ow.al (s:dJ F H):∀{d:D} {v:V} {fp:List cr},Ow K G F H n d v fp->Al K G F H n d v:=by
 induction n with
 |zero=>exactλh=>h.1
 |succ n ih=>
  intro d v fp h;rcases h with h|h
  ·exact .inl h.2.1
  ·cases h with
   |lst hn h p=>exact .inr (.lst h (p.pr λ_ _ _ _ q=>ih q))
   |tup h p=>exact .inr (.tup h (p.pr λ_ _ _ _ q=>ih q))
   |dK hn h l p=>exact .inr (.dK h l (p.pr λ_ _ _ _ q=>ih q))
   |dT hn h l p=>exact .inr (.dT (.inl h) l (p.pr λ_ _ _ _ q=>ih q))
   |obj hn h l p=>exact .inr (.obj h l (p.pr λ_ _ _ _ q=>ih q))
theorem Ow.dt (sF:dJ F F'):∀{d:D} {v:V} {fp:List cr},Ow K G F H n d v fp->(∀a∈fp,F' a=H a)->Dt K G F' d v:=by
 induction n with
 |zero=>exactλh _=>h.1.mono sF
 |succ n ih=>
  intro d v fp h k;rcases h with h|h
  ·exact h.2.1.mono sF
  ·cases h with
   |lst hn h p=>exact .lst (ir.of ((k _ cg).trans h)) (.of (p.pr λ_ _ _ i q=>ih q λa z=>k a (ck _ (i a z))))
   |tup h p=>exact .tup (sF _ _ h) (.of (p.pr λ_ _ _ i q=>ih q λa z=>k a (i a z)))
   |dK hn h l p=>exact .dK ((k _ cg).trans h) l (.of (p.pr λ_ _ _ i q=>ih q λa z=>k a (ck _ (i a z))))
   |dT hn h l p=>exact .dT (.inl ((k _ cg).trans h)) l (.of (p.pr λ_ _ _ i q=>ih q λa z=>k a (ck _ (i a z))))
   |obj hn h l p=>exact .obj ((k _ cg).trans h) l (.of (p.pr λ_ _ _ i q=>ih q λa z=>k a (ck _ (i a z))))
noncomputable def mJ (F H:Hp)(fp:List cr):Hp:=λa=>if a∈fp then H a else F a
theorem xz (s:dJ F H)(hf:∀a∈fp,F a=L):dJ F (mJ F H fp)/\dJ (mJ F H fp) H/\∀a∈fp,mJ F H fp a=H a:=by
 refine⟨λa o h=>?_,λa o h=>?_,λa z=>if_pos z⟩
 ·have:¬a∈fp:=λz=>by rw[hf a z]at h;cases h
  unfold mJ;rw[if_neg this];exact h
 ·unfold mJ at h;by_cases z:a∈fp
  ·rw[if_pos z]at h;exact h
  ·rw[if_neg z]at h;exact s _ _ h
theorem Ow.freeze {v:V}{H0:Hp}(h:Ow K G F H n d v fp)(e:kx F0 H0 F H)(hf:∀a∈fp,H0 a=L):∃F',kx F0 H0 F' H/\Dt K G F' d v:=by
 obtain⟨w1,w2,w3⟩:=xz (fp:=fp) e.fh (λa z=>(h.cells a z).1);refine⟨mJ F H fp,⟨e.ff.trans w1,e.hh,w2,λa o ho nt hn=>?_⟩,h.dt w1 w3⟩;have:¬a∈fp:=λz=>by rw[hf a z]at ho;cases ho
 unfold mJ;rw[if_neg this];exact e.nf a o ho nt hn
theorem Ow.zero {v:V}(h:Dt K G F d v):Ow K G F H 0 d v []:=⟨h,rfl⟩
theorem Ow.scal {v:V}(h:Dt K G F d v)(hs:d.sc=Â):Ow K G F H n d v []:=by
 cases n with
 |zero=>exact⟨h,rfl⟩
 |succ n=>exact .inl ⟨hs,h,rfl⟩
abbrev Env:=List (Option D)
inductive Mo where
 |al (n:Nat)|ow (n:Nat)|px (v:V)|so (x:cr)
noncomputable def Mo.lv:Mo->Nat
 |.al n=>n
 |.ow n=>n
 |.px _=>1
 |.so _=>1
section
variable (K:cm)(G:Nat->cr)
class inductive SL (F B H:Hp):List Mo->Env->St->List cr->Prop
 |nil:SL F B H [] [] [] []
 |no {m:Mo} {o:Option V} {Y:List Mo} {Z:Env} {M:St} {fp:List cr}:SL F B H Y Z M fp->SL F B H (m::Y) (L::Z) (o::M) fp
 |al {n:Nat} {d:D} {v:V} {Y:List Mo} {Z:Env} {M:St} {fp:List cr}:Al K G F B n d v->SL F B H Y Z M fp->SL F B H (.al n::Y) (U d::Z) (U v::M) fp
 |px {d:D} {v:V} {Y:List Mo} {Z:Env} {M:St} {fp:List cr}:Al K G F B 1 d v->SL F B H Y Z M fp->SL F B H (.px v::Y) (U d::Z) (U v::M) fp
 |so {d:D} {x:cr} {Y:List Mo} {Z:Env} {M:St} {fp:List cr}:Ow K G F H 1 d (.ref x) [x]->SL F B H Y Z M fp->SL F B H (.so x::Y) (U d::Z) (U (.ref x)::M) (x::fp)
 |ow {n:Nat} {d:D} {v:V} {Y:List Mo} {Z:Env} {M:St} {f fp:List cr}:Ow K G F H n d v f->SL F B H Y Z M fp->SL F B H (.ow n::Y) (U d::Z) (U v::M) (f++fp)
structure RS (F0 B:Hp)(Y:List Mo)(F H:Hp)(Z:Env)(M:St):Prop where
 f0:dJ F0 F
 bh:dJ B H
 fh:dJ F H
 nf:∀a o,B a=U o->mK o->F0 a=L->F a=L
 sl:∃fp,SL K G F B H Y Z M fp/\fp.Nodup/\∀a∈fp,B a=L
end
variable {k:Nat}{Y:List Mo}{Z:Env}{M:St}
theorem SL.cells (h:SL K G F B H Y Z M fp):∀a∈fp,F a=L/\∃o,H a=U o/\mK o:=by
 induction h with
 |nil=>intro a z;cases z
 |no t ih=>exact ih
 |al _ t ih=>exact ih
 |px _ t ih=>exact ih
 |so h t ih=>exactλa z=>(cu.mp z).elim (λz=>h.cells a (by rw[z];exact cg)) (ih a)
 |ow h t ih=>exactλa z=>(cW.mp z).elim (h.cells a) (ih a)
theorem SL.frame (sF:dJ F F')(h:SL K G F B H Y Z M fp):(∀a∈fp,H' a=H a/\F' a=L)->SL K G F' B H' Y Z M fp:=by
 induction h with
 |nil=>exactλ_=>.nil
 |no t ih=>exactλk=>.no (ih k)
 |al h t ih=>exactλk=>.al (h.mono sF (.refl _)) (ih k)
 |px h t ih=>exactλk=>.px (h.mono sF (.refl _)) (ih k)
 |so h t ih=>exactλk=>.so (h.frame sF λa z=>k a (by rw[cG]at z;rw[z];exact cg)) (ih λa z=>k a (ck _ z))
 |ow h t ih=>exactλk=>.ow (h.frame sF λa z=>k a (c7 _ z)) (ih λa z=>k a (cC _ z))
theorem RS.ext (r:RS K G F0 B Y F H Z M)(e:kx F H F' H'):RS K G F0 B Y F' H' Z M:=by obtain⟨fp,s,nd,hb⟩:=r.sl;refine⟨r.f0.trans e.ff,r.bh.trans e.hh,e.fh,λa o h t n=>e.nf a o (r.bh _ _ h) t (r.nf a o h t n),fp,s.frame e.ff λa z=>?_,nd,hb⟩;obtain⟨hn,o,ho,nt⟩:=s.cells a z;exact⟨(e.hh _ _ ho).trans ho.symm,e.nf a o ho nt hn⟩
theorem SL.get {m:Mo}(h:SL K G F B H Y Z M fp)(s:dJ F H)(s':dJ B H):Y[i]?=U m->Z[i]?=U (U d)->∃v,M[i]?=U (U v)/\Al K G F H m.lv d v:=by
 induction h generalizing i with
 |nil=>intro e;simp at e
 |no t ih=>
  intro e e';cases i with
  |zero=>simp at e'
  |succ i=>simpa using ih (by simpa using e) (by simpa using e')
 |al h t ih=>
  intro e e';cases i with
  |zero=>simp at e e';subst e;subst e';exact⟨_,rfl,h.mono (.refl _) s'⟩
  |succ i=>simpa using ih (by simpa using e) (by simpa using e')
 |px h t ih=>
  intro e e';cases i with
  |zero=>simp at e e';subst e;subst e';exact⟨_,rfl,h.mono (.refl _) s'⟩
  |succ i=>simpa using ih (by simpa using e) (by simpa using e')
 |so h t ih=>
  intro e e';cases i with
  |zero=>simp at e e';subst e;subst e';exact⟨_,rfl,h.al s⟩
  |succ i=>simpa using ih (by simpa using e) (by simpa using e')
 |ow h t ih=>
  intro e e';cases i with
  |zero=>simp at e e';subst e;subst e';exact⟨_,rfl,h.al s⟩
  |succ i=>simpa using ih (by simpa using e) (by simpa using e')
theorem RS.get (r:RS K G F0 B Y F H Z M){m:Mo}(hm:Y[i]?=U m)(e:Z[i]?=U (U d)):∃v,M[i]?=U (U v)/\Al K G F H m.lv d v:=by obtain⟨fp,s,_,_⟩:=r.sl;exact s.get r.fh r.bh hm e
theorem SL.put (h0:SL K G F B H Y Z M fp):Y[i]?=U (.ow k) ->
  ∃f1 fr:List cr,(∀a∈f1,a∈fp)/\(∀a∈fr,a∈fp)/\(fp.Nodup->f1.Nodup/\fr.Nodup/\∀a∈f1,a∉fr)/\(∀d,Z[i]?=U (U d)->∃v,M[i]?=U (U v)/\Ow K G F H k d v f1) /\
   ∀(F' H':Hp) (d':D) (v':V) (f':List cr),dJ F F'->(∀a∈fr,H' a=H a/\F' a=L)->Ow K G F' H' k d' v' f' ->
    ∃lL,SL K G F' B H' Y (Z.set i (U d')) (M.set i (U v')) lL/\(∀a∈lL,a∈f'\/a∈fr)/\(f'.Nodup->fr.Nodup->(∀a∈f',a∉fr)->lL.Nodup):=by
 induction h0 generalizing i with
 |nil=>intro e;simp at e
 |@no m0 o0 Y Z M fp t ih=>
  intro e;cases i with
  |zero=>simp at e;subst e;refine⟨[],fp,λa z=>(by cases z),λa z=>z,λn=>⟨dz,n,λa z=>(by cases z)⟩,λd q=>(by simp at q),λF' H' d' v' f' s kf h=>⟨f'++fp,.ow h (t.frame s kf),λa z=>cW.mp z,λn1 n2 dj=>?_⟩⟩;exact cT.mpr ⟨n1,n2,λa z b zb e=>dj a z (e▸zb)⟩
  |succ i=>obtain⟨f1,fr,h1,h2,h3,h4,h5⟩:=ih (i:=i) (by simpa using e);refine⟨f1,fr,h1,h2,h3,λd q=>by simpa using h4 d (by simpa using q),λF' H' d' v' f' s kf h=>?_⟩;obtain⟨lL,q1,q2,q3⟩:=h5 F' H' d' v' f' s kf h;exact⟨lL,.no q1,q2,q3⟩
 |@al n0 d0 v0 Y Z M fp h t ih=>
  intro e;cases i with
  |zero=>simp at e
  |succ i=>obtain⟨f1,fr,h1,h2,h3,h4,h5⟩:=ih (i:=i) (by simpa using e);refine⟨f1,fr,h1,h2,h3,λd q=>by simpa using h4 d (by simpa using q),λF' H' d' v' f' s kf h'=>?_⟩;obtain⟨lL,q1,q2,q3⟩:=h5 F' H' d' v' f' s kf h';exact⟨lL,.al (h.mono s (.refl _)) q1,q2,q3⟩
 |@px d0 v0 Y Z M fp h t ih=>
  intro e;cases i with
  |zero=>simp at e
  |succ i=>obtain⟨f1,fr,h1,h2,h3,h4,h5⟩:=ih (i:=i) (by simpa using e);refine⟨f1,fr,h1,h2,h3,λd q=>by simpa using h4 d (by simpa using q),λF' H' d' v' f' s kf h'=>?_⟩;obtain⟨lL,q1,q2,q3⟩:=h5 F' H' d' v' f' s kf h';exact⟨lL,.px (h.mono s (.refl _)) q1,q2,q3⟩
 |@so d0 x Y Z M fp h t ih=>
  intro e;cases i with
  |zero=>simp at e
  |succ i=>
   obtain⟨f1,fr,h1,h2,h3,h4,h5⟩:=ih (i:=i) (by simpa using e);refine⟨f1,x::fr,λa z=>ck _ (h1 a z),λa z=>(cu.mp z).elim (λz=>by rw[z];exact cg) λz=>ck _ (h2 a z),λn=>?_,λd q=>by simpa using h4 d (by simpa using q),λF' H' d' v' f' s kf h'=>?_⟩
   ·obtain⟨n1,n2⟩:=dG.mp n;obtain⟨m1,m2,m3⟩:=h3 n2;refine⟨m1,dG.mpr ⟨λz=>n1 (h2 x z),m2⟩,λa z zb=>?_⟩;rcases cu.mp zb with zb|zb
    ·rw[zb]at z;exact n1 (h1 x z)
    ·exact m3 a z zb
   ·obtain⟨lL,q1,q2,q3⟩:=h5 F' H' d' v' f' s (λa z=>kf a (ck _ z)) h';refine⟨x::lL,.so (h.frame s λa z=>kf a (by rw[cG]at z;rw[z];exact cg)) q1,λa z=>?_,λn1 n2 dj=>?_⟩
    ·rcases cu.mp z with z|z
     ·exact .inr (by rw[z];exact cg)
     ·exact(q2 a z).imp id λz=>ck _ z
    ·obtain⟨m1,m2⟩:=dG.mp n2;refine dG.mpr ⟨λz=>?_,q3 n1 m2 λa z zb=>dj a z (ck _ zb)⟩;rcases q2 x z with z|z
     ·exact dj x z cg
     ·exact m1 z
 |@ow n0 d0 v0 Y Z M f fp h t ih=>
  intro e;cases i with
  |zero=>
   simp at e;subst e;refine⟨f,fp,λa z=>c7 _ z,λa z=>cC _ z,λn=>?_,λd q=>?_,λF' H' d' v' f' s kf h=>⟨f'++fp,.ow h (t.frame s kf),λa z=>cW.mp z,λn1 n2 dj=>?_⟩⟩
   ·obtain⟨n1,n2,n3⟩:=cT.mp n;exact⟨n1,n2,λa z zb=>n3 a z a zb rfl⟩
   ·simp at q;subst q;exact⟨_,rfl,h⟩
   ·exact cT.mpr ⟨n1,n2,λa z b zb e=>dj a z (e▸zb)⟩
  |succ i=>
   obtain⟨f1,fr,h1,h2,h3,h4,h5⟩:=ih (i:=i) (by simpa using e);refine⟨f1,f++fr,λa z=>cC _ (h1 a z),λa z=>(cW.mp z).elim (λz=>c7 _ z) λz=>cC _ (h2 a z),λn=>?_,λd q=>by simpa using h4 d (by simpa using q),λF' H' d' v' f' s kf h'=>?_⟩
   ·obtain⟨n1,n2,n3⟩:=cT.mp n;obtain⟨m1,m2,m3⟩:=h3 n2;refine⟨m1,cT.mpr ⟨n1,m2,λa z b zb=>n3 a z b (h2 b zb)⟩,λa z zb=>?_⟩;rcases cW.mp zb with zb|zb
    ·exact n3 a zb a (h1 a z) rfl
    ·exact m3 a z zb
   ·obtain⟨lL,q1,q2,q3⟩:=h5 F' H' d' v' f' s (λa z=>kf a (cC _ z)) h';refine⟨f++lL,.ow (h.frame s λa z=>kf a (c7 _ z)) q1,λa z=>?_,λn1 n2 dj=>?_⟩
    ·rcases cW.mp z with z|z
     ·exact .inr (c7 _ z)
     ·exact(q2 a z).imp id λz=>cC _ z
    ·obtain⟨m1,m2,m3⟩:=cT.mp n2;refine cT.mpr ⟨m1,q3 n1 m2 λa z zb=>dj a z (cC _ zb),λa z b zb e=>?_⟩;subst e;rcases q2 a zb with zb|zb
     ·exact dj a zb (c7 _ z)
     ·exact m3 a z a zb rfl
abbrev EF:=Env->Option D
class inductive nF (K:cm)(G:Nat->cr)(F Ϙ:Hp):List Nat->List D->List V->Prop
 |nil:nF K G F Ϙ [] [] []
 |cons {n:Nat} {d:D} {v:V} {ns:List Nat} {S:List D} {vs:List V}:Al K G F Ϙ n d v->nF K G F Ϙ ns S vs->nF K G F Ϙ (n::ns) (d::S) (v::vs)
variable {ns:List Nat}
theorem nF.mono (sF:dJ F F')(sG:dJ Ϙ G'){vs:List V}(h:nF K G F Ϙ ns S vs):nF K G F' G' ns S vs:=by
 induction h with
 |nil=>exact .nil
 |cons h t ih=>exact .cons (h.mono sF sG) ih
theorem nF.length {vs:List V}(h:nF K G F Ϙ ns S vs):vs.length=ns.length:=by
 induction h with
 |nil=>rfl
 |cons h t ih=>rw[cB,cB,ih]
theorem nF.length' {vs:List V}(h:nF K G F Ϙ ns S vs):S.length=vs.length:=by
 induction h with
 |nil=>rfl
 |cons h t ih=>rw[cB,cB,ih]
theorem nF.append {FG:List Nat}{tJ:List D}{Kc:List V}(q:nF K G F Ϙ FG tJ Kc){vs:List V}(h:nF K G F Ϙ ns S vs):nF K G F Ϙ (ns++FG) (S++tJ) (vs++Kc):=by
 induction h with
 |nil=>exact q
 |cons h t ih=>exact .cons h ih
section
variable (X:Cx)(G:Nat->cr)(Y:List Mo)
def XE (n:Nat)(e:Expr)(f:EF):Prop:=∃t,PE X e t/\∀(F0 B F H:Hp) (Z:Env) (M:St) (d:D) (Q:VK),RS X.K G F0 B Y F H Z M->f Z=U d ->
 (∀v F' H',kx F H F' H'->Al X.K G F' H' n d v->Q v H')->t M H Q
def XO (k:Nat)(e:Expr)(f:EF):Prop:=∃t,PE X e t/\∀(F0 B F H:Hp) (Z:Env) (M:St) (d:D) (Q:VK),RS X.K G F0 B Y F H Z M->f Z=U d ->
 (∀v F' H' fp,kx F H F' H'->Ow X.K G F' H' k d v fp->fp.Nodup->(∀a∈fp,H a=L)->Q v H')->t M H Q
def XT (e:Expr)(f:Env->Option Bool):Prop:=∃t,PT X e t/\∀(F0 B F H:Hp) (Z:Env) (M:St) (b:Bool) (Q:Bool->Hp->Prop),RS X.K G F0 B Y F H Z M->f Z=U b ->
 (∀F' H',kx F H F' H'->Q b H')->t M H Q
def XW (e:Expr)(f:Env->Option Bool):Prop:=∃t,PW X e t/\∀(F0 B F H:Hp) (Z:Env) (M:St) (b:Bool) (Q:Bool->Hp->Prop),RS X.K G F0 B Y F H Z M->f Z=U b ->
 (∀F' H',kx F H F' H'->Q b H')->t M H Q
def XA (es:List Expr)(ns:List Nat)(f:Env->Option (List D)):Prop:=∃t,PA X es t/\(∀Z S,f Z=U S->S.length=es.length)/\∀(F0 B F H:Hp) (Z:Env) (M:St) (S:List D) (Q:List V->Hp->Prop),RS X.K G F0 B Y F H Z M->f Z=U S ->
 (∀vs F' H',kx F H F' H'->nF X.K G F' H' ns S vs->Q vs H')->t M H Q
end
noncomputable def e2 (op:D->D->Option D)(f g:EF):EF:=λZ=>(f Z).bind λx=>(g Z).bind λy=>op x y
noncomputable def e1 (op:D->Option D)(f:EF):EF:=λZ=>(f Z).bind op
noncomputable def eN (op:List D->Option D)(f:Env->Option (List D)):EF:=λZ=>(f Z).bind op
noncomputable def eC (d:D):EF:=λ_=>U d
noncomputable def C (i:Nat):EF:=λZ=>(Z[i]?).join
noncomputable def Å:Env->Option (List D):=λ_=>U []
noncomputable def Ä (f:EF)(g:Env->Option (List D)):Env->Option (List D):=λZ=>(f Z).bind λx=>(g Z).bind λxs=>U (x::xs)
variable {α β:Type}
theorem eL {γ:Type}{o:Option α}{p:Option β}{op:α->β->Option γ}{r:γ}(h:(o.bind λx=>p.bind λy=>op x y)=U r):∃x y,o=U x/\p=U y/\op x y=U r:=by
 cases o with
 |none=>cases h
 |some x=>
  cases p with
  |none=>cases h
  |some y=>exact⟨x,y,rfl,rfl,h⟩
theorem cK {o:Option α}{op:α->Option β}{r:β}(h:o.bind op=U r):∃x,o=U x/\op x=U r:=by
 cases o with
 |none=>cases h
 |some x=>exact⟨x,rfl,h⟩
theorem zl {o:Option (Option α)}{x:α}(h:o.join=U x):o=U (U x):=by
 cases o with
 |none=>cases h
 |some y=>exact congrArg U h
def rV (K:cm)(G:Nat->cr)(n m k:Nat)(r:R2)(op:D->D->Option D):Prop :=
 ∀(F H:Hp) (x y:V) (d1 d2 d:D) (Q:VK),dJ F H->Al K G F H n d1 x->Al K G F H m d2 y->op d1 d2=U d->(∀v F' H',kx F H F' H'->Al K G F' H' k d v->Q v H')->r x y H Q
def EG (K:cm)(G:Nat->cr)(n m k:Nat)(r:R2)(op:D->D->Option D):Prop :=
 ∀(F H:Hp) (x y:V) (d1 d2 d:D) (Q:VK),dJ F H->Al K G F H n d1 x->Al K G F H m d2 y->op d1 d2=U d ->
  (∀v F' H' fp,kx F H F' H'->Ow K G F' H' k d v fp->fp.Nodup->(∀a∈fp,H a=L)->Q v H')->r x y H Q
def By (K:cm)(G:Nat->cr)(ns:List Nat)(k:Nat)(r:List V->Hp->VK->Prop)(op:List D->Option D):Prop :=
 ∀(F H:Hp) (vs:List V) (S:List D) (d:D) (Q:VK),dJ F H->nF K G F H ns S vs->op S=U d->(∀v F' H',kx F H F' H'->Al K G F' H' k d v->Q v H')->r vs H Q
def EH (K:cm)(G:Nat->cr)(ns:List Nat)(k:Nat)(r:List V->Hp->VK->Prop)(op:List D->Option D):Prop :=
 ∀(F H:Hp) (vs:List V) (S:List D) (d:D) (Q:VK),dJ F H->nF K G F H ns S vs->op S=U d ->
  (∀v F' H' fp,kx F H F' H'->Ow K G F' H' k d v fp->fp.Nodup->(∀a∈fp,H a=L)->Q v H')->r vs H Q
variable {X:Cx}{a b c e:Expr}{es:List Expr}{f g h:EF}{fs:Env->Option (List D)}{m:Nat}{op:qH}{pos:oj}{r:R2}
theorem XO.sh (he:XO X G Y k e f):XE X G Y n e f:=by obtain⟨t,p,q⟩:=he;refine⟨t,p,λF0 B F H Z M d Q r e w=>q F0 B F H Z M d Q r e λv F' H' fp x o nd hf=>?_⟩;obtain⟨F2,x2,h2⟩:=o.freeze x hf;exact w v F2 H' x2 (Al.of h2)
theorem XE.ow (he:XE X G Y 0 e f):XO X G Y 0 e f:=by obtain⟨t,p,q⟩:=he;exact⟨t,p,λF0 B F H Z M d Q r e w=>q F0 B F H Z M d Q r e λv F' H' x l=>w v F' H' [] x ⟨l,rfl⟩ dz λa z=>(by cases z)⟩
theorem Gh (i n:Nat){m:Mo}(hm:Y[i]?=U m:=by rfl)(hl:m.lv=n:=by rfl)(hN:X.N[i]?=U x:=by rfl)(hv:sm X.env.scope x:=by walk_at "v1")(hd:kC x:=by decide)
  (kW:tI x:=by decide):XE X G Y n (.Name x pos) (C i):=by
 subst hl;refine⟨_,xm hN hv hd kW,λF0 B F H Z M d Q r e w=>?_⟩;obtain⟨v,hv,l⟩:=r.get hm (zl e);exact⟨v,hv,w v F H (.refl r.fh) l⟩
theorem ŷ {i:Int}{j}:XE X G Y n (.Constant (.int i) j pos) (eC (.int i)):=⟨_,ZR,λF0 B F H Z M d Q r e w=>by cases e;exact w _ F H (.refl r.fh) (Al.of (.int i))⟩
theorem yz {i:Bool}{j}:XE X G Y n (.Constant (.bool i) j pos) (eC (.bl i)):=⟨_,ľ,λF0 B F H Z M d Q r e w=>by cases e;exact w _ F H (.refl r.fh) (Al.of (.bl i))⟩
theorem zn {i:Str}{j}:XE X G Y n (.Constant (.str i) j pos) (eC (.str i)):=⟨_,ZT,λF0 B F H Z M d Q r e w=>by cases e;exact w _ F H (.refl r.fh) (Al.of (.str i))⟩
theorem Ŷ {j}:XE X G Y n (.Constant .none j pos) (eC .non):=⟨_,ZS,λF0 B F H Z M d Q r e w=>by cases e;exact w _ F H (.refl r.fh) (Al.of .non)⟩
theorem XE.bin (ha:XE X G Y n a f)(hb:XE X G Y m b g):∃ta tb,PE X a ta/\PE X b tb/\∀(F0 B F H:Hp) (Z:Env) (M:St) (d1 d2:D) (R:V->V->Hp->Prop),RS X.K G F0 B Y F H Z M->f Z=U d1->g Z=U d2 ->
  (∀x y F' H',kx F H F' H'->Al X.K G F' H' n d1 x->Al X.K G F' H' m d2 y->R x y H')->ta M H λx H1=>tb M H1 λy H2=>R x y H2:=by
 obtain⟨ta,pa,qa⟩:=ha;obtain⟨tb,pb,qb⟩:=hb;refine⟨ta,tb,pa,pb,λF0 B F H Z M d1 d2 R r e1 e2 w=>qa F0 B F H Z M d1 _ r e1 λx F1 H1 x1 l1=>?_⟩;exact qb F0 B F1 H1 Z M d2 _ (r.ext x1) e2 λy F2 H2 x2 l2=>w x y F2 H2 (x1.trans x2) (l1.mono x2.ff x2.hh) l2
theorem CQ {o:D->D->Option D}(ho:li X (gI op) r)(hs:rV X.K G n m k r o)(ha:XE X G Y n a f)(hb:XE X G Y m b g):XE X G Y k (.BinOp a op b pos) (e2 o f g):=by obtain⟨ta,tb,pa,pb,q⟩:=ha.bin hb;refine⟨_,Ls ho pa pb,λF0 B F H Z M d Q rs e w=>?_⟩;obtain⟨d1,d2,h1,h2,h3⟩:=eL e;exact q F0 B F H Z M d1 d2 _ rs h1 h2 λx y F' H' x1 l1 l2=>hs F' H' x y d1 d2 d Q x1.fh l1 l2 h3 λv F2 H2 x2 l=>w v F2 H2 (x1.trans x2) l
theorem Œ {o:D->D->Option D}(ho:li X (gI op) r)(hs:EG X.K G n m k r o)(ha:XE X G Y n a f)(hb:XE X G Y m b g):XO X G Y k (.BinOp a op b pos) (e2 o f g):=by obtain⟨ta,tb,pa,pb,q⟩:=ha.bin hb;refine⟨_,Ls ho pa pb,λF0 B F H Z M d Q rs e w=>?_⟩;obtain⟨d1,d2,h1,h2,h3⟩:=eL e;exact q F0 B F H Z M d1 d2 _ rs h1 h2 λx y F' H' x1 l1 l2=>hs F' H' x y d1 d2 d Q x1.fh l1 l2 h3 λv F2 H2 fp x2 l nd hf=>w v F2 H2 fp (x1.trans x2) l nd λz hz=>x1.hh.free (hf z hz)
theorem DJ {op:Bd}{o:D->D->Option D}(ho:li X (eh op) r)(hs:rV X.K G n m k r o)(ha:XE X G Y n a f)(hb:XE X G Y m b g)(hm:fU op b=Ã):XE X G Y k (.Compare a [op] [b] pos) (e2 o f g):=by obtain⟨ta,tb,pa,pb,q⟩:=ha.bin hb;refine⟨_,Ye ho pa pb hm,λF0 B F H Z M d Q rs e w=>?_⟩;obtain⟨d1,d2,h1,h2,h3⟩:=eL e;exact q F0 B F H Z M d1 d2 _ rs h1 h2 λx y F' H' x1 l1 l2=>hs F' H' x y d1 d2 d Q x1.fh l1 l2 h3 λv F2 H2 x2 l=>w v F2 H2 (x1.trans x2) l
theorem Gx {o:D->D->Option D}(hr:Bi X r)(hs:rV X.K G n m k r o)(ha:XE X G Y n a f)(hb:XE X G Y m b g)(hp:oW b):XE X G Y k (.Subscript a b pos) (e2 o f g):=by obtain⟨ta,tb,pa,pb,q⟩:=ha.bin hb;refine⟨_,Lu hr pa pb hp,λF0 B F H Z M d Q rs e w=>?_⟩;obtain⟨d1,d2,h1,h2,h3⟩:=eL e;exact q F0 B F H Z M d1 d2 _ rs h1 h2 λx y F' H' x1 l1 l2=>hs F' H' x y d1 d2 d Q x1.fh l1 l2 h3 λv F2 H2 x2 l=>w v F2 H2 (x1.trans x2) l
theorem ő {op:UnaryOp}{r:V->Hp->VK->Prop}{o:D->Option D}(ho:GB X (unaryOp op) r)
  (hs:∀(F H:Hp) (x:V) (d1 d:D) (Q:VK),dJ F H->Al X.K G F H n d1 x->o d1=U d->(∀v F' H',kx F H F' H'->Al X.K G F' H' k d v->Q v H')->r x H Q) (ha:XE X G Y n a f):XE X G Y k (.UnaryOp op a pos) (e1 o f):=by
 obtain⟨ta,pa,qa⟩:=ha;refine⟨_,Ļ ho pa,λF0 B F H Z M d Q rs e w=>?_⟩;obtain⟨d1,h1,h2⟩:=cK e;exact qa F0 B F H Z M d1 _ rs h1 λx F' H' x1 l1=>hs F' H' x d1 d Q x1.fh l1 h2 λv F2 H2 x2 l=>w v F2 H2 (x1.trans x2) l
theorem ze:XA X G Y [] [] Å:=⟨_,wz,λZ S e=>(by cases e;rfl),λF0 B F H Z M S Q r e w=>by cases e;exact w [] F H (.refl r.fh) .nil⟩
theorem za (ha:XE X G Y n a f)(hr:XA X G Y es ns fs)(hs:SE X a es:=by rfl):XA X G Y (a::es) (n::ns) (Ä f fs):=by obtain⟨ta,pa,qa⟩:=ha;obtain⟨tb,pb,lb,qb⟩:=hr;refine⟨_,yj pa pb hs,λZ S e=>(by obtain⟨x,xs,h1,h2,h3⟩:=eL e;cases h3;rw[cB,cB,lb _ _ h2]),λF0 B F H Z M S Q r e w=>?_⟩;obtain⟨x,xs,h1,h2,h3⟩:=eL e;cases h3;refine qa F0 B F H Z M x _ r h1 λv F1 H1 x1 l1=>?_;exact qb F0 B F1 H1 Z M xs _ (r.ext x1) h2 λvs F2 H2 x2 l2=>w (v::vs) F2 H2 (x1.trans x2) (.cons (l1.mono x2.ff x2.hh) l2)
def EQ (X:Cx)(G:Nat->cr)(Y:List Mo)(k:Nat)(es:List Expr)(f:Env->Option (List D)):Prop:=∃t,PA X es t/\(∀Z S,f Z=U S->S.length=es.length)/\∀(F0 B F H:Hp) (Z:Env) (M:St) (S:List D) (Q:List V->Hp->Prop),RS X.K G F0 B Y F H Z M->f Z=U S ->
 (∀vs F' H' fp,kx F H F' H'->iF (Ow X.K G F' H' k) S vs fp->fp.Nodup->(∀a∈fp,H a=L)->Q vs H')->t M H Q
theorem zx:EQ X G Y k [] Å:=⟨_,wz,λZ S e=>(by cases e;rfl),λF0 B F H Z M S Q r e w=>by cases e;exact w [] F H [] (.refl r.fh) .nil dz λa z=>(by cases z)⟩
theorem zj (ha:XO X G Y k a f)(hr:EQ X G Y k es fs)(hs:SE X a es:=by rfl):EQ X G Y k (a::es) (Ä f fs):=by
 obtain⟨ta,pa,qa⟩:=ha;obtain⟨tb,pb,lb,qb⟩:=hr;refine⟨_,yj pa pb hs,λZ S e=>(by obtain⟨x,xs,h1,h2,h3⟩:=eL e;cases h3;rw[cB,cB,lb _ _ h2]),λF0 B F H Z M S Q r e w=>?_⟩;obtain⟨x,xs,h1,h2,h3⟩:=eL e;cases h3;refine qa F0 B F H Z M x _ r h1 λv F1 H1 f1 x1 l1 n1 a1=>?_;refine qb F0 B F1 H1 Z M xs _ (r.ext x1) h2 λvs F2 H2 f2 x2 l2 n2 a2=>w (v::vs) F2 H2 (f1++f2) (x1.trans x2) (.cons (l1.ext x2) l2) (cT.mpr ⟨n1,n2,λz hz y hy e=>?_⟩) λz hz=>?_
 ·subst e;obtain⟨_,o,ho,_⟩:=l1.cells z hz;rw[a2 z hy]at ho;cases ho
 ·rcases cW.mp hz with hz|hz
  ·exact a1 z hz
  ·exact x1.hh.free (a2 z hz)
noncomputable def xB:D->Option Bool
 |.bl b=>U b
 |_=>L
theorem vd {b:Bool}(h:xB d=U b):d=.bl b:=by cases d<;>simp[xB]at h;subst h;rfl
abbrev BF:=Env->Option Bool
def tb (f:EF):BF:=λZ=>(f Z).bind xB
noncomputable def Þ (f:BF):BF:=λZ=>(f Z).bind λb=>U (!b)
noncomputable def ß (f g:BF):BF:=λZ=>(f Z).bind λb=>if b=Â then g Z else U Ã
noncomputable def å (f g:BF):BF:=λZ=>(f Z).bind λb=>if b=Â then U Â else g Z
noncomputable def eB (f:BF):EF:=λZ=>(f Z).bind λb=>U (.bl b)
noncomputable def ü (c:BF)(f g:EF):EF:=λZ=>(c Z).bind λb=>if b=Â then f Z else g Z
variable {fQ pp:oj}{c0 kk rk:Nat}{cs nd pm:List Nat}{sD:List D}{rD:List cj}{mQ:List V}{fa:cr}{mf:List D->Option D}{o:Expr}{p q:BF}{pl:Ci Bool}{ps:List Str}
section
theorem yt (he:XE X G Y n e f)(hi:∀whole,wJ e X.env whole=(do let v ← whole;kA e.pos;f9 [v] (truthy v)):=by intro _;rfl):XT X G Y e (tb f):=by obtain⟨t,pt,qt⟩:=he;refine⟨_,Pn pt hi,λF0 B F H Z M b Q r e w=>?_⟩;obtain⟨d,h1,h2⟩:=cK e;rw[vd h2]at h1;exact qt F0 B F H Z M _ _ r h1 λv F' H' x l=>⟨b,l.bl,w F' H' x⟩
theorem vh {op:Bd}{o:D->D->Option D}(ho:li X (eh op) r)(hs:rV X.K G n m k r o)(ha:XE X G Y n a f)(hb:XE X G Y m b g)(hm:fU op b=Ã):XT X G Y (.Compare a [op] [b] pos) (tb (e2 o f g)):=by obtain⟨ta,tb,pa,pb,q⟩:=ha.bin hb;refine⟨_,Ox ho pa pb hm,λF0 B F H Z M b Q rs e w=>?_⟩;obtain⟨d,h0,h4⟩:=cK e;rw[vd h4]at h0;obtain⟨d1,d2,h1,h2,h3⟩:=eL h0;exact q F0 B F H Z M d1 d2 _ rs h1 h2 λx y F' H' x1 l1 l2=>hs F' H' x y d1 d2 _ _ x1.fh l1 l2 h3 λv F2 H2 x2 l=>⟨b,l.bl,w F2 H2 (x1.trans x2)⟩
theorem XW.t (h:XW X G Y e p):XT X G Y e p:=by obtain⟨t,pt,qt⟩:=h;exact⟨t,pt.pt,qt⟩
theorem jp (ha:XT X G Y a p):XW X G Y (.BoolOp .And [a] pos) p:=by obtain⟨t,pt,qt⟩:=ha;exact⟨t,X9 pt,qt⟩
theorem xq (ha:XT X G Y a p):XW X G Y (.BoolOp .Or [a] pos) p:=by obtain⟨t,pt,qt⟩:=ha;exact⟨t,ZU pt,qt⟩
theorem Eg {Ó:List Expr}(ha:XT X G Y a p)(hb:XW X G Y (.BoolOp .And (b::Ó) pos) q):XW X G Y (.BoolOp .And (a::b::Ó) pos) (ß p q):=by
 obtain⟨t,pt,qt⟩:=ha;obtain⟨u,pu,qu⟩:=hb;refine⟨_,ZV pt pu,λF0 B F H Z M r Q rs e w=>?_⟩;obtain⟨x,h1,h2⟩:=cK e;refine qt F0 B F H Z M x _ rs h1 λF1 H1 x1=>?_;cases x with
 |true=>rw[if_pos rfl];exact qu F0 B F1 H1 Z M r _ (rs.ext x1) h2 λF2 H2 x2=>w F2 H2 (x1.trans x2)
 |false=>cases h2;rw[if_neg cI];exact w F1 H1 x1
theorem wa {Ó:List Expr}(ha:XT X G Y a p)(hb:XW X G Y (.BoolOp .Or (b::Ó) pos) q):XW X G Y (.BoolOp .Or (a::b::Ó) pos) (å p q):=by
 obtain⟨t,pt,qt⟩:=ha;obtain⟨u,pu,qu⟩:=hb;refine⟨_,Ľ pt pu,λF0 B F H Z M r Q rs e w=>?_⟩;obtain⟨x,h1,h2⟩:=cK e;refine qt F0 B F H Z M x _ rs h1 λF1 H1 x1=>?_;cases x with
 |true=>cases h2;rw[if_pos rfl];exact w F1 H1 x1
 |false=>rw[if_neg cI];exact qu F0 B F1 H1 Z M r _ (rs.ext x1) h2 λF2 H2 x2=>w F2 H2 (x1.trans x2)
theorem wc (ha:XT X G Y a p):XT X G Y (.UnaryOp .Not a pos) (Þ p):=by obtain⟨t,pt,qt⟩:=ha;refine⟨_,Po pt,λF0 B F H Z M r Q rs e w=>?_⟩;obtain⟨x,h1,h2⟩:=cK e;cases h2;exact qt F0 B F H Z M x _ rs h1 λF1 H1 x1=>w F1 H1 x1
theorem vi {op}(ha:XE X G Y n a f):XE X G Y k (.BoolOp op [a] pos) (eB (tb f)):=by obtain⟨t,pt,qt⟩:=ha;refine⟨_,ZW pt,λF0 B F H Z M r Q rs e w=>?_⟩;obtain⟨y,h3,h4⟩:=cK e;obtain⟨z,h5,h6⟩:=cK h3;cases h4;rw[vd h6]at h5;exact qt F0 B F H Z M _ _ rs h5 λv F1 H1 x1 l=>w _ F1 H1 x1 (by rw[l.bl];exact Al.of (.bl _))
theorem ue {Ó:List Expr}(ha:XE X G Y n a f)(hb:XE X G Y k (.BoolOp .And (b::Ó) pos) (eB q)):XE X G Y k (.BoolOp .And (a::b::Ó) pos) (eB (ß (tb f) q)):=by
 obtain⟨t,pt,qt⟩:=ha;obtain⟨u,pu,qu⟩:=hb;refine⟨_,ZX pt pu,λF0 B F H Z M r Q rs e w=>?_⟩;obtain⟨y,h3,h4⟩:=cK e;obtain⟨x,h1,h2⟩:=cK h3;obtain⟨z,h5,h6⟩:=cK h1;cases h4;rw[vd h6]at h5;refine qt F0 B F H Z M _ _ rs h5 λv F1 H1 x1 l=>⟨x,l.bl,?_⟩;cases x with
 |true=>rw[if_pos rfl];exact qu F0 B F1 H1 Z M _ _ (rs.ext x1) (show(q Z).bind _=_ by rw[if_pos rfl]at h2;rw[h2];rfl) λv F2 H2 x2 l=>w v F2 H2 (x1.trans x2) l
 |false=>rw[if_neg cI]at h2 ⊢;cases h2;exact w _ F1 H1 x1 (Al.of (.bl _))
theorem Lw {Ó:List Expr}(ha:XE X G Y n a f)(hb:XE X G Y k (.BoolOp .Or (b::Ó) pos) (eB q)):XE X G Y k (.BoolOp .Or (a::b::Ó) pos) (eB (å (tb f) q)):=by
 obtain⟨t,pt,qt⟩:=ha;obtain⟨u,pu,qu⟩:=hb;refine⟨_,ļ pt pu,λF0 B F H Z M r Q rs e w=>?_⟩;obtain⟨y,h3,h4⟩:=cK e;obtain⟨x,h1,h2⟩:=cK h3;obtain⟨z,h5,h6⟩:=cK h1;cases h4;rw[vd h6]at h5;refine qt F0 B F H Z M _ _ rs h5 λv F1 H1 x1 l=>⟨x,l.bl,?_⟩;cases x with
 |true=>rw[if_pos rfl]at h2 ⊢;cases h2;exact w _ F1 H1 x1 (Al.of (.bl _))
 |false=>rw[if_neg cI];exact qu F0 B F1 H1 Z M _ _ (rs.ext x1) (show(q Z).bind _=_ by rw[if_neg cI]at h2;rw[h2];rfl) λv F2 H2 x2 l=>w v F2 H2 (x1.trans x2) l
theorem DN (hc:XT X G Y c p)(ha:XE X G Y k a f)(hb:XE X G Y k b g):XE X G Y k (.IfExp c a b pos) (ü p f g):=by
 obtain⟨s,ps,qs⟩:=hc;obtain⟨t,pt,qt⟩:=ha;obtain⟨u,pu,qu⟩:=hb;refine⟨_,Ws ps pt pu,λF0 B F H Z M r Q rs e w=>?_⟩;obtain⟨x,h1,h2⟩:=cK e;refine qs F0 B F H Z M x _ rs h1 λF1 H1 x1=>?_;cases x with
 |true=>rw[if_pos rfl]at h2 ⊢;exact qt F0 B F1 H1 Z M _ _ (rs.ext x1) h2 λv F2 H2 x2 l=>w v F2 H2 (x1.trans x2) l
 |false=>rw[if_neg cI]at h2 ⊢;exact qu F0 B F1 H1 Z M _ _ (rs.ext x1) h2 λv F2 H2 x2 l=>w v F2 H2 (x1.trans x2) l
theorem Eh {x1}(h:EQ X G Y k es fs)(hl:es.length<=1000:=by decide):XO X G Y (k+1) (.Tuple es x1 pos) (λZ=>(fs Z).bind λS=>U (.tup S)):=by
 obtain⟨t,pt,lt,qt⟩:=h;refine⟨_,Lf pt,λF0 B F H Z M r Q rs e w=>?_⟩;obtain⟨S,h1,h2⟩:=cK e;cases h2;refine qt F0 B F H Z M S _ rs h1 λvs F1 H1 fp x1 l nd hf=>⟨?_,λp hp=>?_⟩
 ·rw[←l.length,lt _ _ h1];exact ö hl
 ·have x2:=kx.newS x1.fh hp (.tup vs);exact w _ _ _ fp (x1.trans x2) (.inr (.tup zo (l.mono λ_ _ _ _ o=>o.ext x2))) nd hf
theorem iF.cellsOf {vs:List V}(l:iF (Ow K G F H k) S vs fp):∀a∈fp,F a=L/\∃o,H a=U o/\mK o:=iF.cells0 (λd v f q=>Ow.cells q) l
theorem OE {vs:List V}{p:cr}(s:dJ F H)(l:iF (Ow K G F H k) S vs fp)(hp:H p=L):Ow K G F (upd H p (.lst vs)) (k+1) (.lst S) (.ref p) (p::fp)/\(fp.Nodup->(p::fp).Nodup) :=
 ⟨.inr (.lst (s.free hp) zo (l.mono λ_ _ _ _ o=>o.ext (kx.newO s hp _))),λnd=>dG.mpr ⟨λz=>(by obtain⟨_,o,ho,_⟩:=iF.cellsOf l p z;rw[hp]at ho;cases ho),nd⟩⟩
theorem xg (h:EQ X G Y k es fs)(hl:es.length<=1000:=by decide):XO X G Y (k+1) (.List es pos) (λZ=>(fs Z).bind λS=>U (.lst S)):=by
 obtain⟨t,pt,lt,qt⟩:=h;refine⟨_,Θ pt,λF0 B F H Z M r Q rs e w=>?_⟩;obtain⟨S,h1,h2⟩:=cK e;cases h2;refine qt F0 B F H Z M S _ rs h1 λvs F1 H1 fp x1 l nd hf=>⟨?_,λp hp=>?_⟩
 ·rw[←l.length,lt _ _ h1];exact ö hl
 ·obtain⟨o,n2⟩:=OE x1.fh l hp;refine w _ _ _ (p::fp) (x1.trans (kx.newO x1.fh hp _)) o (n2 nd) λz hz=>?_;rcases cu.mp hz with rfl|hz
  ·exact x1.hh.free hp
  ·exact hf z hz
theorem WQ:XO X G Y (k+1) (.Dict [] [] pos) (eC (.dK [] [])):=by refine⟨_,We,λF0 B F H Z M r Q rs e w p hp=>?_⟩;cases e;refine w _ F _ [p] (kx.newO rs.fh hp _) (.inr (Aq.dK (vs:=[]) (rs.fh.free hp) zo rfl .nil)) (by simp) λz hz=>?_;rw[cG]at hz;subst hz;exact hp
theorem WR:XO X G Y (k+1) (.Dict [] [] pos) (eC (.dT [] [])):=by refine⟨_,Wf,λF0 B F H Z M r Q rs e w p hp=>?_⟩;cases e;refine w _ F _ [p] (kx.newO rs.fh hp _) (.inr (Aq.dT (vs:=[]) (rs.fh.free hp) zo rfl .nil)) (by simp) λz hz=>?_;rw[cG]at hz;subst hz;exact hp
def iH (K:cm)(G:Nat->cr)(pm:List Nat)(rk:Nat)(m:List D->Option D):Sp:=λvs H Q _=>∃(F:Hp) (S:List D) (d:D),dJ F H/\nF K G F H pm S vs/\m S=U d /\
 ∀v F' H' fp,kx F H F' H'->Ow K G F' H' rk d v fp->fp.Nodup->(∀a∈fp,H a=L)->Q v H'
theorem iH.len {m:List D->Option D}(h:pm.length=ps.length):∀vs H Q E,iH K G pm rk m vs H Q E->vs.length=ps.length:=by rintro vs H Q E ⟨F,S,d,_,l,_⟩;rw[l.length,h]
variable {fd:cz}
theorem Hw (Fn:dL X.prog X.w X.K X.mg X.base fJ kk fa fd ps (iH X.K G (ns++nd) rk mf))(hr:fH kk X.A)(hg:Gl X x)(hm:X.mg x=U (.ref fa))(hk:fk X.K (.ref fa)=Â)
  (hb:gz X.K fd ps rD) (hd:dU mQ rD) (BD:∀F Ϙ,nF X.K G F Ϙ nd sD mQ) (ha:XA X G Y (e::es) ns fs)
  (nH:kC x:=by decide) (he:SE X e es:=by rfl) (kL:pL X pos es:=by rfl) :
  XO X G Y rk (.Call (.Name x pp) (e::es) [] pos) (λZ=>(fs Z).bind λS=>mf (S++sD)):=by
 obtain⟨t,pt,_,qt⟩:=ha;refine⟨_,Hs Fn hr hg hm hk hb hd oK pt nH he kL,λF0 B F H Z M r Q rs e w=>?_⟩;obtain⟨S,h1,h2⟩:=cK e;refine qt F0 B F H Z M S _ rs h1 λvs F1 H1 x1 l=>⟨F1,S++sD,r,x1.fh,nF.append (BD F1 H1) l,h2,λv F2 H2 fp x2 o nd hf=>?_⟩;exact w v F2 H2 fp (x1.trans x2) o nd λz hz=>x1.hh.free (hf z hz)
theorem yu {id:String}{r:List V->Hp->VK->Prop}{op:List D->Option D}(hc:iW X (.builtin id) r)(hs:By X.K G ns k r op)(hg:Gl X x)(hm:X.mg x=L)(hv:d9 x=U (.builtin id))(ha:XA X G Y (e::es) ns fs)
  (hn:x≠"__name__":=by decide) (nH:kC x:=by decide) (he:SE X e es:=by rfl) (kL:pL X pos es:=by rfl) :
  XE X G Y k (.Call (.Name x pp) (e::es) [] pos) (eN op fs):=by
 obtain⟨t,pt,_,qt⟩:=ha;refine⟨_,Kq hc hg hm hv pt hn nH he kL,λF0 B F H Z M r Q rs e w=>?_⟩;obtain⟨S,h1,h2⟩:=cK e;exact qt F0 B F H Z M S _ rs h1 λvs F1 H1 x1 l=>hs F1 H1 vs S r Q x1.fh l h2 λv F2 H2 x2 l2=>w v F2 H2 (x1.trans x2) l2
theorem zq {id:String}{r:List V->Hp->VK->Prop}{op:List D->Option D}(hc:iW X (.type id) r)(hs:By X.K G ns k r op)(hg:Gl X x)(hm:X.mg x=L)(hv:d9 x=U (.type id))(ha:XA X G Y (e::es) ns fs)
  (hn:x≠"__name__":=by decide) (nH:kC x:=by decide) (he:SE X e es:=by rfl) (kL:pL X pos es:=by rfl) :
  XE X G Y k (.Call (.Name x pp) (e::es) [] pos) (eN op fs):=by
 obtain⟨t,pt,_,qt⟩:=ha;refine⟨_,Nq hc hg hm hv pt hn nH he kL,λF0 B F H Z M r Q rs e w=>?_⟩;obtain⟨S,h1,h2⟩:=cK e;exact qt F0 B F H Z M S _ rs h1 λvs F1 H1 x1 l=>hs F1 H1 vs S r Q x1.fh l h2 λv F2 H2 x2 l2=>w v F2 H2 (x1.trans x2) l2
theorem Kl {id:String}{r:List V->Hp->VK->Prop}{op:List D->Option D}(hc:iW X (.type id) r)(hs:EH X.K G ns k r op)(hg:Gl X x)(hm:X.mg x=L)(hv:d9 x=U (.type id))(ha:XA X G Y (e::es) ns fs)
  (hn:x≠"__name__":=by decide) (nH:kC x:=by decide) (he:SE X e es:=by rfl) (kL:pL X pos es:=by rfl) :
  XO X G Y k (.Call (.Name x pp) (e::es) [] pos) (eN op fs):=by
 obtain⟨t,pt,_,qt⟩:=ha;refine⟨_,Nq hc hg hm hv pt hn nH he kL,λF0 B F H Z M r Q rs e w=>?_⟩;obtain⟨S,h1,h2⟩:=cK e;exact qt F0 B F H Z M S _ rs h1 λvs F1 H1 x1 l=>hs F1 H1 vs S r Q x1.fh l h2 λv F2 H2 fp x2 l2 nd hf=>w v F2 H2 fp (x1.trans x2) l2 nd λz hz=>x1.hh.free (hf z hz)
noncomputable def dH (cs:List Nat)(x:Str):D->Option D
 |.obj c ns S=>if cs.contains c=Â then(ns.zip S).lookup x else L
 |_=>L
theorem jq {R:D->V->Prop}{x:Str}{d:D}:∀{ns:List Str} {S:List D} {vs:List V},Pr R S vs->(ns.zip S).lookup x=U d->∃v,(ns.zip vs).lookup x=U v/\R d v
 |[],_,_,_,e=>by simp at e
 |_::_,_,_,.nil,e=>by simp at e
 |y::ns,_,_,.cons h t,e=>by
  rw[gw,cZ]at e;rw[gw,cZ];cases q:x==y with
  |true=>rw[q]at e;cases e;exact⟨_,rfl,h⟩
  |false=>rw[q]at e;exact jq t e
theorem Hf {vs:List V}{x:Str}:∀{ns:List Str} {vs:List V},ns.contains x=Ã->(ns.zip vs).lookup x=L
 |[],_,_=>by simp
 |_::_,[],_=>by simp
 |y::ns,_::vs,h=>by rw[p5,wO]at h;rw[gw,cZ,h.1];exact Hf (vs:=vs) h.2
theorem Py (he:XE X G Y n e f)(hc:∀c∈cs,oU X.K (G c)/\fZ X.K (G c) x)(hb:Ae X e x):XE X G Y (n-1) (.Attribute e x pos) (e1 (dH cs x) f):=by
 obtain⟨t,pt,qt⟩:=he;refine⟨_,Z8 pt hb,λF0 B F H Z M r Q rs e w=>?_⟩;obtain⟨o,h1,h2⟩:=cK e;refine qt F0 B F H Z M o _ rs h1 λv F1 H1 x1 l=>?_;cases o with
 |obj c ns S=>
  obtain⟨a,dx,vs,rfl,ha,hl,Cz⟩:=l.obj x1.fh;unfold dH at h2;dsimp only at h2;by_cases xZ:cs.contains c=Â
  ·rw[if_pos xZ]at h2;obtain⟨u,hu,du⟩:=jq Cz h2;have hh:=hc c (by simpa using xZ);exact⟨a,_,dx,_,u,rfl,ha,hh.1,hh.2,hu,w u F1 H1 x1 du⟩
  ·rw[if_neg xZ]at h2;cases h2
 |_=>cases h2
noncomputable def n4 (c0:Nat)(m:Str)(mf:List D->Option D)(o:D)(S:List D):Option D:=match o with
 |.obj c ns _=>if c=c0/\ns.contains m=Ã then mf (o::S)else L
 |_=>L
theorem KZ (ho:XE X G Y n o f)(c:oU X.K (G c0))(hm:wY X.K (G c0) x fa)(Fn:dL X.prog X.w X.K X.mg X.base fJ kk fa fd ps (iH X.K G (n::(ns++nd)) rk mf))(hr:fH kk X.A)
  (hb:gz X.K fd ps rD) (hd:dU mQ rD) (BD:∀F Ϙ,nF X.K G F Ϙ nd sD mQ) (ha:XA X G Y (e::es) ns fs)
  (m6:SE X e es:=by rfl) (kL:pL X pos es:=by rfl)
  (ht:eF (.Call (.Attribute o x fQ) (e::es) [] pos) X.env=(do
   let ov ← eF o X.env
   kA fQ.atName
   let(f,first) ← f9 [ov] (kI ov x pl)
   md pos f first (jG pos (dD (e::es) X.env)) (ku pos (gA [] X.env))):=by rfl) :
  XO X G Y rk (.Call (.Attribute o x fQ) (e::es) [] pos) (λZ=>(f Z).bind λo=>(fs Z).bind λS=>n4 c0 x mf o (S++sD)):=by
 obtain⟨u,pu,qu⟩:=ho;obtain⟨t,pt,_,qt⟩:=ha;refine⟨_,Oy pu c hm Fn hr hb hd oK pt m6 kL ht,λF0 B F H Z M r Q rs e w=>?_⟩;obtain⟨o,S,h1,h2,h3⟩:=eL e;refine qu F0 B F H Z M o _ rs h1 λv F1 H1 x1 l=>?_;cases o with
 |obj c1 FG tJ=>
  unfold n4 at h3;dsimp only at h3;split at h3
  ·rename_i hc;obtain⟨rfl,yA⟩:=hc;obtain⟨a,dx,vs,rfl,ha,hl,Cz⟩:=l.obj x1.fh;refine⟨a,dx,_,rfl,ha,Hf (vs:=vs) yA,?_⟩;refine qt F0 B F1 H1 Z M S _ (rs.ext x1) h2 λus F2 H2 x2 l2=>⟨F2,_,r,x2.fh,.cons (l.mono x2.ff x2.hh) (nF.append (BD F2 H2) l2),h3,λv F3 H3 fp x3 o nd hf=>?_⟩;exact w v F3 H3 fp ((x1.trans x2).trans x3) o nd λz hz=>(x1.trans x2).hh.free (hf z hz)
  ·cases h3
 |_=>cases h3
theorem u1 (ho:XE X G Y n o f)(c:oU X.K (G c0))(hm:wY X.K (G c0) x fa)(Fn:dL X.prog X.w X.K X.mg X.base fJ kk fa fd ps (iH X.K G (n::nd) rk mf))(hr:fH kk X.A)
  (hb:gz X.K fd ps rD) (hd:dU mQ rD) (BD:∀F Ϙ,nF X.K G F Ϙ nd sD mQ)
  (ht:eF (.Call (.Attribute o x fQ) [] [] pos) X.env=(do
   let ov ← eF o X.env
   kA fQ.atName
   let(f,first) ← f9 [ov] (kI ov x pl)
   md pos f first (jG pos (dD [] X.env)) (ku pos (gA [] X.env))):=by rfl) :
  XO X G Y rk (.Call (.Attribute o x fQ) [] [] pos) (λZ=>(f Z).bind λo=>n4 c0 x mf o sD):=by
 obtain⟨u,pu,qu⟩:=ho;refine⟨_,V7 pu c hm Fn hr hb hd oK ht,λF0 B F H Z M r Q rs e w=>?_⟩;obtain⟨o,h1,h3⟩:=cK e;refine qu F0 B F H Z M o _ rs h1 λv F1 H1 x1 l=>?_;cases o with
 |obj c1 FG tJ=>
  unfold n4 at h3;dsimp only at h3;split at h3
  ·rename_i hc;obtain⟨rfl,yA⟩:=hc;obtain⟨a,dx,vs,rfl,ha,hl,Cz⟩:=l.obj x1.fh;refine⟨a,dx,_,rfl,ha,Hf (vs:=vs) yA,F1,_,r,x1.fh,.cons l (BD F1 H1),h3,λv F3 H3 fp x3 o nd hf=>?_⟩;exact w v F3 H3 fp (x1.trans x3) o nd λz hz=>x1.hh.free (hf z hz)
  ·cases h3
 |_=>cases h3
end
inductive ý where
 |nx (Z:Env)|rt (d:D)|bk (Z:Env)|ct (Z:Env)
abbrev SF:=Env->Option ý
def rB (K:cm)(cl:Nat->cr)(F0 B:Hp)(Y:List Mo)(rk:Nat)(E:qP):ý->Prop
 |.nx Z=>∀M F H,RS K cl F0 B Y F H Z M->E.nx M H
 |.bk Z=>∀M F H,RS K cl F0 B Y F H Z M->E.bk M H
 |.ct Z=>∀M F H,RS K cl F0 B Y F H Z M->E.ct M H
 |.rt d=>∀v F H fp,dJ F0 F->dJ B H->dJ F H->(∀a o,B a=U o->mK o->F0 a=L->F a=L)->Ow K cl F H rk d v fp->fp.Nodup->(∀a∈fp,B a=L)->E.rt v H
section
variable (X:Cx)(G:Nat->cr)(Y:List Mo)(rk:Nat)
def XS (st:dS)(f:SF):Prop:=∃t,PS X st t/\∀(F0 B F H:Hp) (Z:Env) (M:St) (o:ý) (E:qP),RS X.K G F0 B Y F H Z M->f Z=U o->rB X.K G F0 B Y rk E o->t E M H
def vA (st:List dS)(f:SF):Prop:=∃t,xA X st t/\∀(F0 B F H:Hp) (Z:Env) (M:St) (o:ý) (E:qP),RS X.K G F0 B Y F H Z M->f Z=U o->rB X.K G F0 B Y rk E o->t E M H
end
noncomputable def É:SF:=λZ=>U (.nx Z)
noncomputable def Ç (f g:SF):SF:=λZ=>(f Z).bind λo=>match o with
 |.nx ρ'=>g ρ'
 |o=>U o
noncomputable def Ò (c:BF)(f g:SF):SF:=λZ=>(c Z).bind λb=>if b=Â then f Z else g Z
noncomputable def Ì (i:Nat)(f:EF):SF:=λZ=>(f Z).bind λd=>U (.nx (Z.set i (U d)))
noncomputable def Ê (f:EF):SF:=λZ=>(f Z).bind λd=>U (.rt d)
noncomputable def û:SF:=λ_=>U (.rt .non)
noncomputable def ì (f:EF):SF:=λZ=>(f Z).bind λ_=>U (.nx Z)
noncomputable def Ú:SF:=λ_=>L
def vN:Nat:=2 ^ 9000
noncomputable def qW (c:BF)(b:SF):Nat->SF
 |0,_=>L
 |n+1,Z=>(c Z).bind λt=>if t=Â then(b Z).bind λo=>match o with
   |.nx ρ'=>qW c b n ρ'
   |.ct ρ'=>qW c b n ρ'
   |.bk ρ'=>U (.nx ρ')
   |.rt d=>U (.rt d)
  else U (.nx Z)
def qV (c:BF)(b:SF):SF:=qW c b vN
noncomputable def gX (g:D->Env->Option Env)(b:SF):List D->SF
 |[],Z=>U (.nx Z)
 |d::S,Z=>(g d Z).bind λρ1=>(b ρ1).bind λo=>match o with
   |.nx ρ'=>gX g b S ρ'
   |.ct ρ'=>gX g b S ρ'
   |.bk ρ'=>U (.nx ρ')
   |.rt d=>U (.rt d)
def Ø (f:Env->Option (List D))(g:D->Env->Option Env)(b:SF):SF:=λZ=>(f Z).bind λS=>gX g b S Z
variable {N:List Str}{P:eu}{base:cM}{bf u w:SF}{fi:Env->Option (List D)}{gg:D->Env->Option Env}{gs:List D->Env->Option Env}{iter tg:Expr}{j:Nat}{mg:Str->Option cj}{pos':oj}{qual:Str}{Ó B2:List dS}{st:dS}{pH:List Expr}{ρ':Env}
theorem vp:vA X G Y rk [] É:=⟨_,Ya,λF0 B F H Z M o E rs e w=>by cases e;exact w M F H rs⟩
theorem zc (h1:XS X G Y rk st u)(h2:vA X G Y rk Ó w):vA X G Y rk (st::Ó) (Ç u w):=by
 obtain⟨t,pt,qt⟩:=h1;obtain⟨t2,tT,tU⟩:=h2;refine⟨_,Kp pt tT,λF0 B F H Z M o E rs e z=>?_⟩;obtain⟨o1,e1,e2⟩:=cK e;refine qt F0 B F H Z M o1 _ rs e1 ?_;cases o1 with
 |nx ρ'=>exactλσ' F' H' JP=>tU F0 B F' H' ρ' σ' o E JP e2 z
 |rt d=>cases e2;exact z
 |bk ρ'=>cases e2;exact z
 |ct ρ'=>cases e2;exact z
theorem zh (h1:XS X G Y rk st u):vA X G Y rk [st] u:=by obtain⟨t,pt,qt⟩:=h1;exact⟨_,KU pt,qt⟩
theorem xj:XS X G Y rk st Ú:=⟨_,Wt,λF0 B F H Z M o E rs e w=>by cases e⟩
theorem OF (he:XE X G Y n e f)(hs:gQ e L pos.line X.env=pure Ã:=by rfl):XS X G Y rk (.Expr e pos) (ì f):=by obtain⟨t,pt,qt⟩:=he;refine⟨_,KW pt hs,λF0 B F H Z M o E rs e w=>?_⟩;obtain⟨d,h1,h2⟩:=cK e;cases h2;exact qt F0 B F H Z M d _ rs h1 λv F' H' x l=>w M F' H' (rs.ext x)
theorem yn (he:XO X G Y rk e f):XS X G Y rk (.Return (U e) pos) (Ê f):=by obtain⟨t,pt,qt⟩:=he;refine⟨_,DH pt,λF0 B F H Z M o E rs e w=>?_⟩;obtain⟨d,h1,h2⟩:=cK e;cases h2;refine qt F0 B F H Z M d _ rs h1 λv F' H' fp x l nd hf=>?_;have r:=rs.ext x;exact w v F' H' fp r.f0 r.bh r.fh r.nf l nd λz hz=>rs.bh.free (hf z hz)
theorem YA (hm:Y[i]?=U (.ow rk))(hN:X.N[i]?=U x:=by rfl)(hv:sm X.env.scope x:=by walk_at "v1")(hd:kC x:=by decide)
  (kW:tI x:=by decide):XS X G Y rk (.Return (U (.Name x pos')) pos) (Ê (C i)):=by
 refine⟨_,DH (xm hN hv hd kW),λF0 B F H Z M o E rs e w=>?_⟩;obtain⟨d,h1,h2⟩:=cK e;cases h2;obtain⟨fp,sl,nd,hb⟩:=rs.sl;obtain⟨f1,fr,i1,i2,i3,i4,i5⟩:=sl.put hm;obtain⟨v,BK,l⟩:=i4 d (zl h1);exact⟨v,BK,w v F H f1 rs.f0 rs.bh rs.fh rs.nf l (i3 nd).1 λz hz=>hb z (i1 z hz)⟩
theorem Lx {yH:List dS}(hc:XT X G Y c p)(h1:vA X G Y rk B2 u)(h2:vA X G Y rk yH w):XS X G Y rk (.If c B2 yH pos) (Ò p u w):=by
 obtain⟨t,pt,qt⟩:=hc;obtain⟨t1,zK,zL⟩:=h1;obtain⟨t2,tT,tU⟩:=h2;refine⟨_,P2 pt zK tT,λF0 B F H Z M o E rs e z=>?_⟩;obtain⟨x,h1,h2⟩:=cK e;refine qt F0 B F H Z M x _ rs h1 λF1 H1 x1=>?_;cases x with
 |true=>rw[if_pos rfl]at h2 ⊢;exact zL F0 B F1 H1 Z M o E (rs.ext x1) h2 z
 |false=>rw[if_neg cI]at h2 ⊢;exact tU F0 B F1 H1 Z M o E (rs.ext x1) h2 z
theorem RS.put {F' H':Hp}(rs:RS K G F0 B Y F H Z M)(hm:Y[i]?=U (.ow k)) :
  ∃f1 fr:List cr,f1.Nodup/\(∀a∈f1,B a=L)/\(∀a∈f1,a∉fr)/\(∀d,Z[i]?=U (U d)->∃v,M[i]?=U (U v)/\Ow K G F H k d v f1)/\(∀a∈fr,F a=L/\∃o,H a=U o/\mK o) /\
   ∀(F' H':Hp) (d':D) (v':V) (f':List cr),dJ F F'->dJ B H'->dJ F' H'->(∀a o,B a=U o->mK o->F0 a=L->F' a=L)->(∀a∈fr,H' a=H a/\F' a=L)->Ow K G F' H' k d' v' f'->f'.Nodup->(∀a∈f',a∉fr)->(∀a∈f',B a=L) ->
    RS K G F0 B Y F' H' (Z.set i (U d')) (M.set i (U v')):=by
 obtain⟨fp,sl,nd,hb⟩:=rs.sl;obtain⟨f1,fr,i1,i2,i3,i4,i5⟩:=sl.put hm;obtain⟨n1,n2,n3⟩:=i3 nd;refine⟨f1,fr,n1,λa z=>hb a (i1 a z),n3,i4,λa z=>sl.cells a (i2 a z),λF' H' d' v' f' s1 s2 s3 s4 kf o R6 dj Ri=>?_⟩;obtain⟨lL,q1,q2,q3⟩:=i5 F' H' d' v' f' s1 kf o;exact⟨rs.f0.trans s1,s2,s3,s4,lL,q1,q3 R6 n2 dj,λa z=>(q2 a z).elim (Ri a) λz=>hb a (i2 a z)⟩
theorem RS.set {v:V}(rs:RS K G F0 B Y F H Z M)(hm:Y[i]?=U (.ow k))(x:kx F H F' H')(o:Ow K G F' H' k d v fp)(nd:fp.Nodup)(hf:∀a∈fp,H a=L) :
  RS K G F0 B Y F' H' (Z.set i (U d)) (M.set i (U v)):=by
 have r:=rs.ext x;obtain⟨f1,fr,n1,b1,n3,i4,cf,put⟩:=rs.put (F':=F') (H':=H') hm;refine put F' H' d v fp x.ff r.bh x.fh r.nf (λa z=>?_) o nd (λa z zb=>?_) λa z=>rs.bh.free (hf a z)
 ·obtain⟨hn,o,ho,nt⟩:=cf a z;exact⟨(x.hh _ _ ho).trans ho.symm,x.nf a o ho nt hn⟩
 ·obtain⟨hn,o,ho,nt⟩:=cf a zb;rw[hf a z]at ho;cases ho
theorem ŵ (hm:Y[i]?=U (.ow k))(hN:X.N.Nodup)(hi:X.N[i]?=U x)(hx:õ X.env.scope x)(he:XO X G Y k e f)(hs:EO X e x pos' pos:=by rfl)
  (hf:uZ X x:=by walk_at "v2"):XS X G Y rk (.Assign [.Name x pos'] e pos) (Ì i f):=by
 obtain⟨t,pt,qt⟩:=he;refine⟨_,Le hN hi hx pt hs hf,λF0 B F H Z M o E rs e w=>?_⟩;obtain⟨d,h1,h2⟩:=cK e;cases h2;exact qt F0 B F H Z M d _ rs h1 λv F' H' fp x l nd hf=>w _ F' H' (rs.set hm x l nd hf)
theorem WS (hc:XT X G Y c p)(hb:vA X G Y rk Ó u)(hp:mY (c8 X.prog X.w) X.A X.env X.xe):XS X G Y rk (.While c Ó [] pos) (qV p u):=by
 obtain⟨t,pt,qt⟩:=hc;obtain⟨t1,zK,zL⟩:=hb;refine⟨_,Wu hp pt zK,λF0 B F H Z M o E rs e z=>?_⟩;refine⟨λm M H=>∃F Z,RS X.K G F0 B Y F H Z M/\qW p u m Z=U o,⟨vN,F,Z,rs,e⟩,?_⟩;rintro m M H ⟨F,Z,rs,e⟩;cases m with
 |zero=>cases e
 |succ m=>
  obtain⟨x,h1,h2⟩:=cK e;refine qt F0 B F H Z M x _ rs h1 λF1 H1 x1=>?_;cases x with
  |true=>
   rw[if_pos rfl]at h2 ⊢;obtain⟨o1,h3,h4⟩:=cK h2;refine⟨λM H=>∃F Z,RS X.K G F0 B Y F H Z M/\qW p u m Z=U o,λσ' H' h=>⟨m,nP m,h⟩,?_⟩;refine zL F0 B F1 H1 Z M o1 _ (rs.ext x1) h3 ?_;cases o1 with
   |nx ρ'=>exactλσ' F' H' r=>⟨F',ρ',r,h4⟩
   |ct ρ'=>exactλσ' F' H' r=>⟨F',ρ',r,h4⟩
   |bk ρ'=>cases h4;exact z
   |rt d=>cases h4;exact z
  |false=>rw[if_neg cI]at h2 ⊢;cases h2;exact z M F1 H1 (rs.ext x1)
theorem RS.re (r:RS K G F0 B Y F H Z M):RS K G F B Y F H Z M:=⟨.refl _,r.bh,r.fh,λ_ _ _ _ h=>h,r.sl⟩
theorem RS.back {σ':St}(r:RS K G F0 B Y F H Z M)(q:RS K G F B Y F' H' ρ' σ'):RS K G F0 B Y F' H' ρ' σ' :=
 ⟨r.f0.trans q.f0,q.bh,q.fh,λa o h t n=>q.nf a o h t (r.nf a o h t n),q.sl⟩
theorem rB.re {E:qP}{o:ý}(r:RS K G F0 B Y F H Z M)(z:rB K G F0 B Y rk E o):rB K G F B Y rk E o:=by
 cases o with
 |nx Z=>exactλσ' F' H' q=>z σ' F' H' (r.back q)
 |bk Z=>exactλσ' F' H' q=>z σ' F' H' (r.back q)
 |ct Z=>exactλσ' F' H' q=>z σ' F' H' (r.back q)
 |rt d=>exactλv F' H' fp s1 s2 s3 s4=>z v F' H' fp (r.f0.trans s1) s2 s3 λa o h t n=>s4 a o h t (r.nf a o h t n)
def yU (K:cm)(G:Nat->cr)(F B:Hp)(n:Nat)(ϗ:It)(S:List D):Prop :=
 ∀(i:Nat) (F' H':Hp),dJ F F'->dJ B H'->dJ F' H'->(∀d,S[i]?=U d->ϗ.go i H'/\∀x H2,ϗ.yld i H' x H2->∃F2,kx F' H' F2 H2/\Al K G F2 B n d x)/\(S.length<=i->ϗ.stop i H')
def XI (X:Cx)(G:Nat->cr)(Y:List Mo)(n:Nat)(tg iter:Expr)(f:Env->Option (List D)):Prop:=∃wi,PI X tg iter wi/\∀(F0 B F H:Hp) (Z:Env) (M:St) (S:List D) (R:It->Hp->Prop),RS X.K G F0 B Y F H Z M->f Z=U S ->
 (∀ϗ F' H',kx F H F' H'->yU X.K G F' B n ϗ S->R ϗ H')->wi M H R
def C0 (X:Cx)(c:Prop)(G:Nat->cr)(Y:List Mo)(n:Nat)(tg iter:Expr)(f:Env->Option (List D)):Prop:=∃wi,EK X c tg iter wi/\∀(F0 B F H:Hp) (Z:Env) (M:St) (S:List D) (R:It->Hp->Prop),RS X.K G F0 B Y F H Z M->f Z=U S ->
 (∀ϗ F' H',kx F H F' H'->yU X.K G F' H' n ϗ S->R ϗ H')->wi M H R
abbrev BA (X:Cx):=C0 X (X.calm=Â)
def XG (X:Cx)(G:Nat->cr)(Y:List Mo)(n:Nat)(tg:Expr)(g:D->Env->Option Env):Prop:=∃t,PG X tg t/\∀(F0 B F H:Hp) (Z ρ':Env) (M:St) (d:D) (v:V) (Q:St->Hp->Prop),RS X.K G F0 B Y F H Z M->Al X.K G F B n d v->g d Z=U ρ' ->
 (∀σ',RS X.K G F0 B Y F H ρ' σ'->Q σ' H)->t v M H Q
theorem Ŵ (hi:XI X G Y n tg iter fi)(hg:XG X G Y n tg gg)(hb:vA X G Y rk Ó u)(hp:mY (c8 X.prog X.w) X.A X.env X.xe)(hc:X.calm=Â)
  (hs:Ao X iter:=by intro _;rfl):XS X G Y rk (.For tg iter Ó [] pos) (Ø fi gg u):=by
 obtain⟨wi,pi,qi⟩:=hi;obtain⟨MD,pg,qg⟩:=hg;obtain⟨t1,zK,zL⟩:=hb;refine⟨_,Zs hp hc pi pg zK hs,λF0 B F H Z M o E rs e z=>?_⟩;obtain⟨S,h1,h2⟩:=cK e;refine qi F0 B F H Z M S _ rs h1 λϗ F1 H1 x1 ok=>?_;refine⟨λi m M H=>m=S.length-i/\i<=S.length/\∃F Z,dJ F1 F/\RS X.K G F0 B Y F H Z M/\gX gg u (S.drop i) Z=U o,⟨S.length,rfl,gn _,F1,Z,.refl _,rs.ext x1,h2⟩,?_⟩;rintro i m M H ⟨rfl,Rt,F,Z,s1,rs,e⟩;obtain⟨k1,k2⟩:=ok i F H s1 rs.bh rs.fh;by_cases vD:i<S.length
 ·right;have hd:S[i]?=U S[i]:=by simp[vD]
  obtain⟨go,yl⟩:=k1 _ hd;rw[tY vD]at e;obtain⟨ρ1,h3,h4⟩:=cK e;obtain⟨o1,h5,h6⟩:=cK h4;refine⟨go,λM H=>i+1<=S.length/\∃F Z,dJ F1 F/\RS X.K G F0 B Y F H Z M/\gX gg u (S.drop (i+1)) Z=U o,λσ' H' h=>⟨S.length-(i+1),by omega,rfl,h⟩,λx H2 y=>?_⟩;obtain⟨F2,x2,l⟩:=yl x H2 y;refine qg F0 B F2 H2 Z ρ1 M _ x _ (rs.ext x2) l h3 λσ' r=>?_;have s2:=s1.trans x2.ff;refine zL F2 B F2 H2 ρ1 σ' o1 _ r.re h5 ?_;cases o1 with
  |nx ρ'=>exactλσ' F' H' q=>⟨vD,F',ρ',s2.trans q.f0,r.back q,h6⟩
  |ct ρ'=>exactλσ' F' H' q=>⟨vD,F',ρ',s2.trans q.f0,r.back q,h6⟩
  |bk ρ'=>cases h6;exactλσ' F' H' q=>z σ' F' H' (r.back q)
  |rt d=>cases h6;exact rB.re (o:=.rt d) r z
 ·left;refine⟨k2 (by omega),?_⟩
  have:S.drop i=[]:=vH (by omega);rw[this]at e;cases e;exact z M F H rs
noncomputable def gV (i:Nat):D->Env->Option Env:=λd Z=>U (Z.set i (U d))
theorem YB (hm:Y[i]?=U (.ow 0))(hN:X.N.Nodup)(hi:X.N[i]?=U x)(hx:õ X.env.scope x)
  (hf:uZ X x:=by walk_at "v2"):XG X G Y 0 (.Name x pos) (gV i):=by
 refine⟨_,Ou hN hi hx hf,λF0 B F H Z ρ' M d v Q rs l e w=>?_⟩;cases e;exact w _ (rs.set hm (.refl rs.fh) (Ow.zero l) dz λa z=>(by cases z))
theorem SL.setA {v:V}(l:Al K G F B n d v)(h0:SL K G F B H Y Z M fp):Y[i]?=U (.al n)->SL K G F B H Y (Z.set i (U d)) (M.set i (U v)) fp:=by
 induction h0 generalizing i with
 |nil=>intro e;simp at e
 |@no m0 o0 Y Z M fp t ih=>
  intro e;cases i with
  |zero=>simp at e;subst e;exact .al l t
  |succ i=>exact .no (ih (by simpa using e))
 |@al n0 d0 v0 Y Z M fp h t ih=>
  intro e;cases i with
  |zero=>simp at e;subst e;exact .al l t
  |succ i=>exact .al h (ih (by simpa using e))
 |@px d0 v0 Y Z M fp h t ih=>
  intro e;cases i with
  |zero=>simp at e
  |succ i=>exact .px h (ih (by simpa using e))
 |@so d0 x0 Y Z M C3 h t ih=>
  intro e;cases i with
  |zero=>simp at e
  |succ i=>exact .so h (ih (by simpa using e))
 |@ow n0 d0 v0 Y Z M f0 C3 h t ih=>
  intro e;cases i with
  |zero=>simp at e
  |succ i=>exact .ow h (ih (by simpa using e))
def ER (X:Cx)(G:Nat->cr)(Y:List Mo)(n:Nat)(pH:List Expr)(g:List D->Env->Option Env):Prop:=∃t,CY X pH t/\(∀S Z ρ',g S Z=U ρ'->S.length=pH.length)/\∀(F0 B F H:Hp) (Z ρ':Env) (M:St) (S:List D) (vs:List V) (Q:St->Hp->Prop),RS X.K G F0 B Y F H Z M->Pr (Al X.K G F B n) S vs->g S Z=U ρ' ->
 (∀σ',RS X.K G F0 B Y F H ρ' σ'->Q σ' H)->t vs M H Q
noncomputable def Ô:List D->Env->Option Env:=λS Z=>match S with
 |[]=>U Z
 |_=>L
noncomputable def È (g:D->Env->Option Env)(gs:List D->Env->Option Env):List D->Env->Option Env:=λS Z=>match S with
 |d::S=>(g d Z).bind λρ'=>gs S ρ'
 |[]=>L
theorem jr:ER X G Y n [] Ô:=by
 refine⟨_,Ov,λS Z ρ' e=>?_,λF0 B F H Z ρ' M S vs Q rs l e w=>?_⟩
 ·cases S with
  |nil=>rfl
  |cons d S=>cases e
 ·cases l with
  |nil=>cases e;exact⟨rfl,w M rs⟩
  |cons _ _=>cases e
theorem ye (h1:XG X G Y n tg gg)(h2:ER X G Y n pH gs)
  (hs:(ef (tg::pH) X.env).map (·.2)=lK tg X.env::(ef pH X.env).map (·.2):=by rfl):ER X G Y n (tg::pH) (È gg gs):=by
 obtain⟨t,pt,qt⟩:=h1;obtain⟨t2,tT,Dk,tU⟩:=h2;refine⟨_,NP pt tT hs,λS Z ρ' e=>?_,λF0 B F H Z ρ' M S vs Q rs l e w=>?_⟩
 ·cases S with
  |nil=>cases e
  |cons d S=>obtain⟨ρ1,h3,h4⟩:=cK e;rw[cB,cB,Dk _ _ _ h4]
 ·cases l with
  |nil=>cases e
  |cons h t=>obtain⟨ρ1,h3,h4⟩:=cK e;exact⟨_,_,rfl,qt F0 B F H Z ρ1 M _ _ _ rs h h3 λσ1 r1=>tU F0 B F H ρ1 ρ' σ1 _ _ _ r1 t h4 w⟩
noncomputable def gT (gs:List D->Env->Option Env):D->Env->Option Env:=λd Z=>match d with
 |.tup S=>gs S Z
 |_=>L
theorem Gk (hc:X.calm=Â)(h:ER X G Y (n-1) pH gs)(hl:(ef pH X.env).length=pH.length:=by rfl)(m6:(ef pH X.env).findIdx? (·.1)=L:=by rfl):XG X G Y n (.Tuple pH j pos) (gT gs):=by
 obtain⟨t,pt,lt,qt⟩:=h;refine⟨_,Pp (n:=pH.length) hc pt hl m6,λF0 B F H Z ρ' M d v Q rs l e w=>?_⟩;cases d with
 |tup S=>
  have l':Al X.K G F H n (.tup S) v:=l.mono (.refl _) rs.bh;have:∃a vs,v=.ref a/\nG X.K H a vs/\Pr (Al X.K G F B (n-1)) S vs:=by
   cases n with
   |zero=>
    have l:Dt X.K G F (.tup S) v:=l;cases l with
    |tup q t=>exact⟨_,_,rfl,nG.of (rs.fh _ _ q),t.pr⟩
   |succ n=>
    rcases l with l|l
    ·cases l with
     |tup q t=>exact⟨_,_,rfl,nG.of (rs.fh _ _ q),t.pr.mono λ_ _=>Al.of⟩
    ·cases l with
     |tup q t=>exact⟨_,_,rfl,nG.of (rs.fh _ _ q),t⟩
  obtain⟨a,vs,rfl,ha,hp⟩:=this;exact⟨a,vs,rfl,ha,hp.length.symm.trans (lt _ _ _ e),qt F0 B F H Z ρ' M S vs Q rs hp e w⟩
 |_=>cases e
noncomputable def Ñ (N:List Str)(S:List D):Env:=S.map U++cy (N.length-S.length) L
def Ù (N:List Str)(b:SF)(S:List D):Option D:=(b (Ñ N S)).bind λo=>match o with
 |.rt d=>U d
 |.nx _=>U .non
 |_=>L
theorem SL.start {K:cm}{F B H:Hp}:∀{pm:List Nat} {S:List D} {vs:List V} {Y:List Mo} (j:Nat),nF K G F B pm S vs->(∀(i n:Nat),pm[i]?=U n->Y[i]?=U (Mo.al n)\/(n=0/\Y[i]?=U (Mo.ow 0)))->Y.length=pm.length+j ->
  SL K G F B H Y (S.map U++cy j L) (vs.map U++cy j L) []
 |_,_,_,Y,j,.nil,_,hl=>by
  have:∀(j:Nat) (Y:List Mo),Y.length=j->SL K G F B H Y (cy j L) (cy j L) []:=by
   intro j;induction j with
   |zero=>intro Y h;cases Y with
    |nil=>exact .nil
    |cons _ _=>simp at h
   |succ j ih=>intro Y h;cases Y with
    |nil=>simp at h
    |cons m Y=>exact .no (ih Y (by simpa using h))
  simpa using this j Y (by simpa using hl)
 |_,_,_,[],j,.cons h t,_,hl=>by simp at hl;omega
 |_,_,_,m::Y,j,.cons (n:=n) h t,hm,hl=>by
  have ih:=SL.start (Y:=Y) (H:=H) j t (λi n e=>by simpa using hm (i+1) n (by simpa using e)) (by simp at hl;omega);rcases hm 0 n rfl with e|⟨rfl,e⟩
  ·simp at e;subst e;exact .al h ih
  ·simp at e;subst e;exact SL.ow (f:=[]) (Ow.zero h) ih
structure ñ (K:cm)(x qual:Str)(st:dS)(f:cr)(fd:cz):Prop where
 ex:∃(oc:cj) (od:Option cr) (dV kV doc pm:cj) (an:Option cr) (jP G:cj) (BV:Array (Option cj)),
  fd=nr x qual (lE st) (gP st) (dI st) dV kV doc pm an jP G/\K.lookup f=U ⟨oc,od,.func fd,BV⟩/\sk K jP qual=Â
 kp:fk K (.ref f)=Â
theorem ñ.ok {w:dP}{f:cr}{fd:cz}{sp:Sp}(F:ñ K x qual st f fd)(ϙ:gp N ps (dI st))(len:∀vs H Q E,sp vs H Q E->vs.length=ps.length)
    (Az:∀(jP:cj) (A:dQ) (outer:List PySem.Env) (s:cE) (H:Hp) (vs:List V) (Q:VK) (E:XK),fH k (A.deeper (envOfC qual (dI st) s.heap.objs.size f jP))->sp vs H Q E ->
      ∃t,xA (rX fJ P w K mg base N qual (dI st) f jP A outer s H E).nox (gP st) t/\t { nx:=λ_ H'=>Q .non H',rt:=Q } (L2.start N vs) H):dL P w K mg base fJ (k+1) f fd ps sp:=by
  obtain⟨oc,od,dV,kV,doc,pm,an,jP,G,BV,rfl,lk,kW⟩:=F.ex;refine ĸ lk kW ϙ len λA outer s H vs Q E hr CB=>?_;obtain⟨t,h,q⟩:=Az jP A outer s H vs Q E hr CB;exact⟨t,h.nox,q⟩
theorem Ģ {w:dP}{fd:cz}(Fn:ñ K x qual st fa fd)(ϙ:gp N ps (dI st))(AH:pm.length=ps.length)(Dd:Y.length=N.length)(ox:ps.length<=N.length)
  (AG:∀(i n:Nat),pm[i]?=U n->Y[i]?=U (Mo.al n)\/(n=0/\Y[i]?=U (Mo.ow 0)))
  (body:∀(jP:cj) (A:dQ) (outer:List PySem.Env) (s:cE) (H:Hp) (E:XK),fH kk (A.deeper (envOfC qual (dI st) s.heap.objs.size fa jP))->vA (rX fJ P w K mg base N qual (dI st) fa jP A outer s H E).nox G Y rk (gP st) bf) :
  dL P w K mg base fJ (kk+1) fa fd ps (iH K G pm rk (Ù N bf)):=by
 refine Fn.ok ϙ (iH.len AH) λjP A outer s H vs Q E hr h=>?_;obtain⟨F,S,d,sF,l,hm,q⟩:=h;obtain⟨t,pt,qt⟩:=body jP A outer s H E hr;refine⟨t,pt,?_⟩;obtain⟨o,h1,h2⟩:=cK hm;have hvl:vs.length=pm.length:=l.length;have BE:S.length=vs.length:=l.length';refine qt F H F H (Ñ N S) (L2.start N vs) o _ ⟨.refl _,.refl _,sF,λ_ _ _ _ h=>h,[],?_,dz,λa z=>(by cases z)⟩ h1 ?_
 ·unfold Ñ L2.start;rw[BE];exact SL.start _ l AG (by omega)
 ·cases o with
  |nx Z=>cases h2;exactλM F' H' r=>q .non F' H' [] ⟨r.f0,r.bh,r.fh,r.nf⟩ (Ow.scal .non rfl) dz λa z=>(by cases z)
  |rt d'=>cases h2;exactλv F' H' fp s1 s2 s3 s4 o nd hf=>q v F' H' fp ⟨s1,s2,s3,s4⟩ o nd hf
  |bk Z=>cases h2
  |ct Z=>cases h2
theorem li.or {f:cj->cj->Ci cj}{r':R2}(h:li X f r)(h':li X f r'):li X f (λx y H Q=>r x y H Q\/r' x y H Q) :=
 λcn s M H x y v u Q I rx ry q=>q.elim (h cn s M H x y v u Q I rx ry) (h' cn s M H x y v u Q I rx ry)
variable {gv:Int->Int->V}{neg:Bool}
noncomputable def i2 (g:Int->Int->D):D->D->Option D
 |.int i,.int j=>U (g i j)
 |_,_=>L
noncomputable def AJ (ϛ:Int->Int->Prop)[∀i j,Decidable (ϛ i j)](g:Int->Int->D):D->D->Option D
 |.int i,.int j=>if ϛ i j then U (g i j)else L
 |_,_=>L
theorem HX {g:Int->Int->D}(hg:∀i j F,Dt K G F (g i j) (gv i j)):rV K G n m k (wN gv) (i2 g):=by
 intro F H x y d1 d2 d Q s l1 l2 e w;cases d1 with
 |int i=>
  cases d2 with
  |int j=>cases e;exact⟨i,j,l1.int,l2.int,w _ F H (.refl s) (Al.of (hg i j F))⟩
  |_=>cases e
 |_=>cases e
theorem HI {ϛ C':Int->Int->Prop}[∀i j,Decidable (ϛ i j)]{g:Int->Int->D}(hC:∀i j,ϛ i j->C' i j)(hg:∀i j F,Dt K G F (g i j) (gv i j)):rV K G n m k (rI C' gv) (AJ ϛ g):=by
 intro F H x y d1 d2 d Q s l1 l2 e w;cases d1 with
 |int i=>
  cases d2 with
  |int j=>
   unfold AJ at e;dsimp only at e;by_cases h:ϛ i j
   ·rw[if_pos h]at e;cases e;exact⟨i,j,l1.int,l2.int,hC i j h,w _ F H (.refl s) (Al.of (hg i j F))⟩
   ·rw[if_neg h]at e;cases e
  |_=>cases e
 |_=>cases e
noncomputable def LF:Nat:=2 ^ 9000
noncomputable def EA:Nat:=2 ^ 100000
def nc:D->D->Option D:=i2 λi j=>.int (i-j)
theorem YC:rV K G n m k (wN λi j=>.int (i-j)) nc:=HX λ_ _ _=>.int _
def rF (i j:Int):Prop:=(-18446744073709551616<i/\i<18446744073709551616)\/(-18446744073709551616<j/\j<18446744073709551616)\/(i.natAbs<EA/\j.natAbs<EA)
instance (i j:Int):Decidable (rF i j):=by unfold rF;infer_instance
def n6:D->D->Option D:=AJ rF λi j=>.int (i*j)
theorem rF.ok {i j:Int}(h:rF i j):t4 i j:=by
 rcases h with h|h|h
 ·exact .inl (.inl ⟨by have:=h.1;omega,by have:=h.2;omega⟩)
 ·exact .inl (.inr ⟨by have:=h.1;omega,by have:=h.2;omega⟩)
 ·exact .inr h
theorem YD:rV K G n m k (rI t4 λi j=>.int (i*j)) n6:=HI (λ_ _=>rF.ok) λ_ _ _=>.int _
noncomputable def D.v:D->V
 |.bl b=>.bl b
 |.int i=>.int i
 |.str x=>.str x
 |_=>.non
theorem Dt.v {v:V}(h:Dt K G F d v)(hs:d.sc=Â):v=d.v:=by cases h<;>first|rfl|cases hs
theorem Al.v {v:V}(h:Al K G F Ϙ n d v)(hs:d.sc=Â):v=d.v:=Dt.v (Al.scal (F':=F) h hs) hs
theorem D.flat (hs:d.sc=Â):mZ d.v=Â:=by cases d<;>first|rfl|cases hs
theorem Pr.vs {F Ϙ:Hp}:∀{S:List D} {vs:List V},Pr (Al K G F Ϙ n) S vs->S.all D.sc=Â->vs=S.map D.v
 |_,_,.nil,_=>rfl
 |d::S,v::vs,.cons h t,e=>by rw[fq,cY]at e;rw[cL,Al.v h e.1,Pr.vs t e.2]
def kG:D->D->Option D
 |.int i,.int j=>if 0<j/\j<4611686018427387904 then U (.int (i/j))else if j≠0/\j.natAbs<LF then U (.int (i.fdiv j))else L
 |_,_=>L
theorem WT:rV K G n m k (rI (λ_ j=>j≠0/\Sz 9000 j) λi j=>.int (i.fdiv j)) kG:=by
 intro F H x y d1 d2 d Q s l1 l2 e w;cases d1 with
 |int i=>
  cases d2 with
  |int j=>
   unfold kG at e;dsimp only at e;by_cases h:0<j/\j<4611686018427387904
   ·rw[if_pos h]at e;cases e;refine⟨i,j,l1.int,l2.int,⟨by omega,?_⟩,?_⟩
    ·have:Sz 62 j:=by unfold Sz;omega
     exact this.mono (by decide)
    ·show Q (.int (i.fdiv j)) H;rw[tX i (by omega)];exact w _ F H (.refl s) (Al.of (.int _))
   ·rw[if_neg h]at e;by_cases h:j≠0/\j.natAbs<LF
    ·rw[if_pos h]at e;cases e;exact⟨i,j,l1.int,l2.int,h,w _ F H (.refl s) (Al.of (.int _))⟩
    ·rw[if_neg h]at e;cases e
  |_=>cases e
 |_=>cases e
noncomputable def i7:D->D->Option D
 |.int i,.int j=>if 0<j then U (.int (i%j))else if j≠0 then U (.int (i.fmod j))else L
 |_,_=>L
theorem YE:rV K G n m k (rI (λ_ j=>j≠0) λi j=>.int (i.fmod j)) i7:=by
 intro F H x y d1 d2 d Q s l1 l2 e w;cases d1 with
 |int i=>
  cases d2 with
  |int j=>
   unfold i7 at e;dsimp only at e;by_cases h:0<j
   ·rw[if_pos h]at e;cases e;refine⟨i,j,l1.int,l2.int,by omega,?_⟩;show Q (.int (i.fmod j)) H;rw[Int.fmod_eq_emod_of_nonneg i (by omega)];exact w _ F H (.refl s) (Al.of (.int _))
   ·rw[if_neg h]at e;by_cases h:j≠0
    ·rw[if_pos h]at e;cases e;exact⟨i,j,l1.int,l2.int,h,w _ F H (.refl s) (Al.of (.int _))⟩
    ·rw[if_neg h]at e;cases e
  |_=>cases e
 |_=>cases e
def uC (i j:Int):Prop:=0<=j/\j<=1000000/\i.natAbs<18446744073709551616
instance (i j:Int):Decidable (uC i j):=by unfold uC;infer_instance
def AT:D->D->Option D:=AJ uC λi j=>.int (i ^ j.toNat)
theorem YF:rV K G n m k (rI Bx λi j=>.int (i ^ j.toNat)) AT:=HI (λ_ _ h=>⟨h.1,h.2.1,by have:=h.2.2;omega⟩) λ_ _ _=>.int _
def B0:D->D->Option D:=AJ uC λi j=>.int (i*2 ^ j.toNat)
theorem YG:rV K G n m k (rI Bx λi j=>.int (i*2 ^ j.toNat)) B0:=HI (λ_ _ h=>⟨h.1,h.2.1,by have:=h.2.2;omega⟩) λ_ _ _=>.int _
def zO:D->D->Option D:=AJ (λ_ j=>0<=j) λi j=>.int (i/2 ^ j.toNat)
theorem OG:rV K G n m k (rI (λ_ j=>0<=j) λi j=>.int (i/2 ^ j.toNat)) zO:=HI (λ_ _ h=>h) λ_ _ _=>.int _
def tL:D->D->Option D:=i2 λi j=>.bl (decide (i<j))
def wM:D->D->Option D:=i2 λi j=>.bl (decide (j<i))
def Cv:D->D->Option D:=i2 λi j=>.bl (decide (j<=i))
theorem Pz:rV K G n m k (wN λi j=>.bl (decide (i<j))) tL:=HX λ_ _ _=>.bl _
theorem ų:rV K G n m k (wN λi j=>.bl (decide (j<i))) wM:=HX λ_ _ _=>.bl _
theorem PB:rV K G n m k (wN λi j=>.bl (decide (j<=i))) Cv:=HX λ_ _ _=>.bl _
def Du:R2:=λx y H Q=>∃i j,x=.str i/\y=.str j/\Q (.bl (!(decide (j.cps.toList<i.cps.toList)))) H
theorem Ų:li X (eh .LtE) Du:=by intro cn s M H x y v u Q I rx ry h;obtain⟨i,j,rfl,rfl,q⟩:=h;obtain⟨t,rfl⟩:=rx;obtain⟨t',rfl⟩:=ry;exact PySem.P.le_str ⟨.bl _,H,I,rfl,q⟩
noncomputable def zH:D->D->Option D
 |.int i,.int j=>U (.bl (decide (i<=j)))
 |.str i,.str j=>U (.bl (!(decide (j.cps.toList<i.cps.toList))))
 |_,_=>L
theorem YH:rV K G n m k (λx y H Q=>wN (λi j=>.bl (decide (i<=j))) x y H Q\/Du x y H Q) zH:=by
 intro F H x y d1 d2 d Q s l1 l2 e w;cases d1 with
 |int i=>
  cases d2 with
  |int j=>cases e;exact .inl ⟨i,j,l1.int,l2.int,w _ F H (.refl s) (Al.of (.bl _))⟩
  |_=>cases e
 |str i=>
  cases d2 with
  |str j=>cases e;exact .inr ⟨i,j,l1.str,l2.str,w _ F H (.refl s) (Al.of (.bl _))⟩
  |_=>cases e
 |_=>cases e
theorem ZY:li X (eh .LtE) (λx y H Q=>wN (λi j=>.bl (decide (i<=j))) x y H Q\/Du x y H Q):=li.or ĺ Ų
noncomputable def D.isN:D->Bool
 |.non=>Â
 |_=>Ã
noncomputable def D.isB (b:Bool):D->Bool
 |.bl c=>c==b
 |_=>Ã
def pQ (neg:Bool):D->D->Option D
 |d,.non=>U (.bl (if neg then !d.isN else d.isN))
 |d,.bl b=>U (.bl (if neg then !d.isB b else d.isB b))
 |_,_=>L
theorem Al.ref {v:V}(h:Al K G F Ϙ n d v)(hs:d.sc=Ã):∃a,v=.ref a:=by
 cases n with
 |zero=>cases(show Dt K G F d v from h)<;>first|cases hs;done|exact⟨_,rfl⟩
 |succ n=>rcases h with h|h<;>cases h<;>first|cases hs;done|exact⟨_,rfl⟩
theorem Al.isn {v:V}(h:Al K G F Ϙ n d v):decide (v=.non)=d.isN:=by
 cases hs:d.sc with
 |true=>have:=Al.v h hs;subst this;cases d<;>first|rfl|cases hs
 |false=>obtain⟨a,rfl⟩:=h.ref hs;cases d<;>first|rfl|cases hs
theorem Al.isb {v:V}{b:Bool}(h:Al K G F Ϙ n d v):decide (v=.bl b)=d.isB b:=by
 cases hs:d.sc with
 |true=>have:=Al.v h hs;subst this;cases d<;>first|rfl|(cases hs;done)|(rename_i c;cases b<;>cases c<;>rfl)
 |false=>obtain⟨a,rfl⟩:=h.ref hs;cases d<;>first|rfl|cases hs
def Mv:R2:=λx y H Q=>(y=.non/\Q (.bl (decide (x=.non))) H)\/∃b,y=.bl b/\Q (.bl (decide (x=.bl b))) H
def AV:R2:=λx y H Q=>(y=.non/\Q (.bl (!decide (x=.non))) H)\/∃b,y=.bl b/\Q (.bl (!decide (x=.bl b))) H
theorem Ő:li X (eh .Is) Mv:=li.or Z7 ž
theorem WU:li X (eh .IsNot) AV:=li.or Yd VG
theorem ZZ:rV K G n m k Mv (pQ Ã):=by
 intro F H x y d1 d2 d Q s l1 l2 e w;cases d2 with
 |non=>cases e;refine .inl ⟨l2.non,?_⟩;rw[l1.isn];exact w _ F H (.refl s) (Al.of (.bl _))
 |bl b=>cases e;refine .inr ⟨b,l2.bl,?_⟩;rw[l1.isb];exact w _ F H (.refl s) (Al.of (.bl _))
 |_=>cases e
theorem VL:rV K G n m k AV (pQ Â):=by
 intro F H x y d1 d2 d Q s l1 l2 e w;cases d2 with
 |non=>cases e;refine .inl ⟨l2.non,?_⟩;rw[l1.isn];exact w _ F H (.refl s) (Al.of (.bl _))
 |bl b=>cases e;refine .inr ⟨b,l2.bl,?_⟩;rw[l1.isb];exact w _ F H (.refl s) (Al.of (.bl _))
 |_=>cases e
mutual
noncomputable def D.py:D->Option cX
 |.non=>U .none
 |.bl b=>U (.bool b)
 |.int i=>U (.int i)
 |.str x=>U (.str x)
 |.lst xs=>(D.pys xs).bind λys=>U (.list ys)
 |.tup xs=>(D.pys xs).bind λys=>U (.tuple ys)
 |_=>L
noncomputable def D.pys:List D->Option (List cX)
 |[]=>U []
 |d::S=>(D.py d).bind λx=>(D.pys S).bind λxs=>U (x::xs)
end
theorem Dt.toPy (s:dJ F H){v:V}{e:cX}(h:Dt K G F d v)(q:d.py=U e):L2.Dt K H v e:=by
 refine Dt.rec (motive_1:=λd v _=>∀e,d.py=U e->L2.Dt K H v e) (motive_2:=λS vs _=>∀es,D.pys S=U es->L2.ç K H vs es) ?_ ?_ ?_ ?_ ?_ ?_ ?_ ?_ ?_ ?_ ?_ ?_ ?_ ?_ h e q
 ·intro e h;rw[D.py]at h;cases h;exact .non
 ·intro b e h;rw[D.py]at h;cases h;exact .bl b
 ·intro b e h;rw[D.py]at h;cases h;exact .int b
 ·intro b e h;rw[D.py]at h;cases h;exact .str b
 ·intro _ _ _ q _ t e h;rw[D.py]at h;obtain⟨ys,h1,h2⟩:=cK h;cases h2;exact .lst (s.seq q) (t _ h1)
 ·intro _ _ _ q _ t e h;rw[D.py]at h;obtain⟨ys,h1,h2⟩:=cK h;cases h2;exact .tup (nG.of (s _ _ q)) (t _ h1)
 ·intro _ _ _ _ _ _ _ _ e h;simp only[D.py]at h;cases h
 ·intro _ _ _ _ _ _ _ _ e h;simp only[D.py]at h;cases h
 ·intro _ _ _ _ _ _ _ _ _ _ e h;simp only[D.py]at h;cases h
 ·intro _ _ _ _ e h;simp only[D.py]at h;cases h
 ·intro _ _ _ _ _ _ _ _ _ _ _ _ e h;simp only[D.py]at h;cases h
 ·intro _ _ _ _ _ _ e h;simp only[D.py]at h;cases h
 ·intro e h;rw[D.pys]at h;cases h;exact .nil
 ·intro _ _ _ _ _ _ p t e h;rw[D.pys]at h;obtain⟨y,ys,h1,h2,h3⟩:=eL h;cases h3;exact .cons (p _ h1) (t _ h2)
theorem Pr.toPy (f:∀d v e,R d v->d.py=U e->L2.Dt K H v e){vs:List V}{es:List cX}(h:Pr R S vs)(e:D.pys S=U es):L2.ç K H vs es:=by
 induction h generalizing es with
 |nil=>rw[D.pys]at e;cases e;exact .nil
 |cons h t ih=>rw[D.pys]at e;obtain⟨y,ys,h1,h2,h3⟩:=eL e;cases h3;exact .cons (f _ _ _ h h1) (ih h2)
theorem Al.toPy (s:dJ F H){v:V}{e:cX}(h:Al K G F H n d v)(q:d.py=U e):L2.Dt K H v e:=by
 induction n generalizing d v e with
 |zero=>exact Dt.toPy s h q
 |succ n ih=>
  cases h with
  |inl h=>exact Dt.toPy s h q
  |inr h=>
   cases h with
   |lst h t=>rw[D.py]at q;obtain⟨ys,h1,h2⟩:=cK q;cases h2;exact .lst (ir.of h) (Pr.toPy (λ_ _ _=>ih) t h1)
   |tup h t=>rw[D.py]at q;obtain⟨ys,h1,h2⟩:=cK q;cases h2;exact .tup (nG.of (s _ _ h)) (Pr.toPy (λ_ _ _=>ih) t h1)
   |_=>simp only[D.py]at q;cases q
noncomputable def uR (a:cX):Bool:=a.canLay0&&decide (a.depth<=60)
def ga (neg:Bool)(x y:D):Option D:=x.py.bind λa=>y.py.bind λb=>if uR a=Â/\uR b=Â then U (.bl (if neg then !cX.eqv a b else cX.eqv a b))else L
theorem qh:rV K G n m k (Dr K neg) (ga neg):=by
 intro F H x y d1 d2 d Q s l1 l2 e w;obtain⟨a,b,h1,h2,h3⟩:=eL e;by_cases h:uR a=Â/\uR b=Â
 ·rw[if_pos h]at h3;cases h3;have o1:=h.1;have o2:=h.2;unfold uR at o1 o2;rw[cY,decide_eq_true_iff]at o1 o2;exact⟨a,b,Al.toPy s l1 h1,Al.toPy s l2 h2,o1.1,o2.1,d8 (Nat.min_le_left _ _) o1.2,w _ F H (.refl s) (Al.of (.bl _))⟩
 ·rw[if_neg h]at h3;cases h3
variable {κ:Type}{fN:oj}
theorem Pr.atI {vs:List V}{i:Int}(h:Pr R S vs)(e:atI S i=U d):∃v,atI vs i=U v/\R d v:=by unfold L2.atI at e ⊢;rw[←h.length];obtain⟨j,h1,h2⟩:=cK e;obtain⟨v,h3,h4⟩:=h.get' h2;exact⟨v,by rw[h1];exact h3,h4⟩
noncomputable def BP:D->Option i6
 |.int i=>U (.inl i)
 |.str x=>U (.inr x)
 |_=>L
def vT:List D->Option (List i6)
 |[]=>U []
 |d::S=>(BP d).bind λk=>(vT S).bind λks=>U (k::ks)
noncomputable def qT [DecidableEq κ](ks:List κ)(S:List D)(k:κ):Option D:=((ks.zip S).find? λp=>decide (p.1=k)).map (·.2)
def RO (R:D->V->Prop):Option D->Option V->Prop
 |some d,U u=>R d u
 |none,L=>True
 |_,_=>False
theorem RO.some_of {q:Option V}(h:RO R (U d) q):∃u,q=U u/\R d u:=by
 cases q with
 |none=>exact h.elim
 |some u=>exact⟨u,rfl,h⟩
theorem RO.none_of {q:Option V}(h:RO R L q):q=L:=by
 cases q with
 |none=>rfl
 |some u=>exact h.elim
theorem Ku {κ:Type}[DecidableEq κ]{R:D->V->Prop}{k:κ}:∀{ks:List κ} {S:List D} {vs:List V},Pr R S vs->RO R (qT ks S k) (nN (ks.zip vs) k)
 |[],_,_,_=>by simp[qT,nN,RO]
 |_::_,_,_,.nil=>by simp[qT,nN,RO]
 |y::ks,d::S,v::vs,.cons h t=>by
  by_cases e:y=k
  ·have h1:qT (y::ks) (d::S) k=U d:=by simp[qT,eI,e]
   have h2:nN ((y::ks).zip (v::vs)) k=U v:=by simp[nN,eI,e]
   rw[h1,h2];exact h
  ·have h1:qT (y::ks) (d::S) k=qT ks S k:=by simp[qT,eI,e]
   have h2:nN ((y::ks).zip (v::vs)) k=nN (ks.zip vs) k:=by simp[nN,eI,e]
   rw[h1,h2];exact Ku t
theorem Lk {v:V}{k:i6}(e:BP d=U k)(h:Al K G F Ϙ n d v):v=kV k:=by
 cases d with
 |int i=>cases e;exact h.int
 |str i=>cases e;exact h.str
 |_=>cases e
theorem OH {vs:List V}(e:vT S=U ks)(h:Pr (Al K G F Ϙ n) S vs):vs=ks.map kV:=by
 induction h generalizing ks with
 |nil=>cases e;rfl
 |cons h t ih=>unfold vT at e;obtain⟨k,ks,h1,h2,h3⟩:=eL e;cases h3;rw[Lk h1 h,ih h2];rfl
def sE (o y:D):Option (Option D):=match o with
 |.dK ks S=>(BP y).bind λk=>U (qT ks S k)
 |.dT ks S=>(match y with|.tup ys=>(vT ys).bind λk=>U (qT ks S k)|_=>L)
 |_=>L
theorem OI {o y:D}{x v:V}(s:dJ F Ϙ)(l1:Al K G F Ϙ n o x)(l2:Al K G F Ϙ m y v){r:Option D}(e:sE o y=U r) :
  ∃a q,x=.ref a/\vK Ϙ a v q/\GA Ϙ a/\RO (Al K G F Ϙ (n-1)) r q:=by
 cases o with
 |dK ks S=>obtain⟨a,vs,rfl,ha,hl,hp⟩:=l1.dK s;obtain⟨k,h1,h2⟩:=cK e;cases h2;have hv:=Lk h1 l2;subst hv;exact⟨a,_,rfl,vK.k ha,.inl ⟨_,.inl ha⟩,Ku hp⟩
 |dT ks S=>
  obtain⟨a,vs,rfl,ha,hl,hp⟩:=l1.dT s;cases y with
  |tup ys=>obtain⟨k,h1,h2⟩:=cK e;cases h2;obtain⟨b,us,rfl,hb,Je⟩:=l2.tup s;have hv:=OH h1 Je;subst hv;exact⟨a,_,rfl,.inr ⟨_,_,_,ha,rfl,hb,rfl⟩,.inr ⟨_,ha⟩,Ku hp⟩
  |_=>cases e
 |_=>cases e
def dX:D->D->Option D
 |.lst S,.int i=>atI S i
 |.tup S,.int i=>atI S i
 |.kt S,.int i=>atI S i
 |.str x,.int i=>if x.length<=16777216 then(atI x.cps.toList i).bind λc=>U (.str ⟨#[c]⟩)else L
 |_,_=>L
theorem Gm:rV K G n m (n-1) (Mw K) dX:=by
 intro F H x y d1 d2 d Q s l1 l2 e w;cases d1 with
 |lst S=>
  cases d2 with
  |int i=>obtain⟨a,vs,rfl,ha,hp⟩:=l1.lst s;obtain⟨v,h1,h2⟩:=hp.atI e;exact .inl ⟨a,vs,i,v,rfl,l2.int,ha,h1,w v F H (.refl s) h2⟩
  |_=>cases e
 |tup S=>
  cases d2 with
  |int i=>obtain⟨a,vs,rfl,ha,hp⟩:=l1.tup s;obtain⟨v,h1,h2⟩:=hp.atI e;exact .inr (.inl ⟨a,vs,i,v,rfl,l2.int,nG.of ha,h1,w v F H (.refl s) h2⟩)
  |_=>cases e
 |kt S=>
  cases d2 with
  |int i=>obtain⟨a,vs,rfl,ha,hp⟩:=l1.kt;obtain⟨v,h1,h2⟩:=hp.atI e;exact .inr (.inl ⟨a,vs,i,v,rfl,l2.int,.inr ha,h1,w v F H (.refl s) (Al.of h2)⟩)
  |_=>cases e
 |str z=>
  cases d2 with
  |int i=>
   unfold dX at e;dsimp only at e;by_cases h:z.length<=16777216
   ·rw[if_pos h]at e;obtain⟨c,h1,h2⟩:=cK e;cases h2;exact .inr (.inr ⟨z,i,c,l1.str,l2.int,by rw[fu];exact h,h1,w _ F H (.refl s) (Al.of (.str _))⟩)
   ·rw[if_neg h]at e;cases e
  |_=>cases e
 |_=>cases e
theorem YI (hu:X.A.units+1<oR)(ho:XE X G Y n o f)(he:XE X G Y m e g)(h1:M1 X o "get" fQ e fN):XE X G Y (n-1) (.Call (.Attribute o "get" fQ) [e] [] fN) (λZ=>(f Z).bind λx=>(g Z).bind λy=>(sE x y).bind λr=>U (r.getD .non)):=by
 obtain⟨ta,pa,qa⟩:=ho;obtain⟨tb,pb,qb⟩:=he;refine⟨_,WI hu pa pb h1,λF0 B F H Z M d Q rs e w=>?_⟩;obtain⟨d1,d2,e1,e2,e3⟩:=eL e;obtain⟨r,e4,e5⟩:=cK e3;cases e5;refine qa F0 B F H Z M d1 _ rs e1 λx F1 H1 x1 l1=>?_;have:∃a,x=.ref a/\GA H1 a:=by
  cases d1 with
  |dK ks S=>obtain⟨a,vs,rfl,ha,_⟩:=l1.dK x1.fh;exact⟨a,rfl,.inl ⟨_,.inl ha⟩⟩
  |dT ks S=>obtain⟨a,vs,rfl,ha,_⟩:=l1.dT x1.fh;exact⟨a,rfl,.inr ⟨_,ha⟩⟩
  |_=>cases e4
 obtain⟨a,rfl,RY⟩:=this;refine⟨a,rfl,RY,qb F0 B F1 H1 Z M d2 _ (rs.ext x1) e2 λy F2 H2 x2 l2=>?_⟩;obtain⟨a',o,ea,gg,_,h⟩:=OI (r:=r) x2.fh (l1.mono x2.ff x2.hh) l2 e4;cases ea;refine⟨o,gg,?_⟩;cases r with
 |none=>rw[h.none_of];exact w _ F2 H2 (x1.trans x2) (Al.of .non)
 |some d=>obtain⟨u,rfl,D3⟩:=h.some_of;exact w _ F2 H2 (x1.trans x2) D3
noncomputable def Ct:D->D->Bool
 |.non,.non=>Â
 |.bl a,.bl b=>a==b
 |.bl a,.int b=>(if a then 1 else 0)==b
 |.int a,.bl b=>a==(if b then 1 else 0)
 |.int a,.int b=>a==b
 |.str a,.str b=>a==b
 |_,_=>Ã
theorem P5 {x y:D}(hx:x.sc=Â)(hy:y.sc=Â):yX x.v y.v=Ct x y:=by cases x<;>first|cases hx;done|(cases y<;>first|cases hy;done|rfl)
def yB (x:D)(S:List D):Bool:=S.any λy=>Ct y x
theorem HY {x:D}(hx:x.sc=Â):∀{S:List D},S.all D.sc=Â->G0 x.v (S.map D.v)=yB x S
 |[],_=>rfl
 |d::S,h=>by rw[fq,cY]at h;have ih:=HY hx h.2;unfold G0 yB at ih ⊢;rw[cL,iA,iA,ih,P5 h.1 hx]
theorem u2:∀{S:List D},S.all D.sc=Â->(S.map D.v).all mZ=Â
 |[],_=>rfl
 |d::S,h=>by rw[fq,cY]at h;rw[cL,fq,D.flat h.1,u2 h.2];rfl
def ð (neg:Bool)(x y:D):Option D:=match y with
 |.lst S=>if x.sc=Â/\S.all D.sc=Â then U (.bl (if neg then !yB x S else yB x S))else L
 |.tup S=>if x.sc=Â/\S.all D.sc=Â then U (.bl (if neg then !yB x S else yB x S))else L
 |.kt S=>if x.sc=Â/\S.all D.sc=Â then U (.bl (if neg then !yB x S else yB x S))else L
 |_=>L
theorem Ej:rV K G n m k (JM K neg) (ð neg):=by
 intro F H x y d1 d2 d Q s l1 l2 e w;cases d2 with
 |lst S=>
  unfold ð at e;dsimp only at e;by_cases h:d1.sc=Â/\S.all D.sc=Â
  ·rw[if_pos h]at e;cases e;obtain⟨a,vs,rfl,ha,hp⟩:=l2.lst s;have hv:=hp.vs h.2;subst hv;have hx:=Al.v l1 h.1;subst hx;refine⟨a,_,rfl,.inl ha,D.flat h.1,u2 h.2,?_⟩;rw[HY h.1 h.2];exact w _ F H (.refl s) (Al.of (.bl _))
  ·rw[if_neg h]at e;cases e
 |tup S=>
  unfold ð at e;dsimp only at e;by_cases h:d1.sc=Â/\S.all D.sc=Â
  ·rw[if_pos h]at e;cases e;obtain⟨a,vs,rfl,ha,hp⟩:=l2.tup s;have hv:=hp.vs h.2;subst hv;have hx:=Al.v l1 h.1;subst hx;refine⟨a,_,rfl,.inr (nG.of ha),D.flat h.1,u2 h.2,?_⟩;rw[HY h.1 h.2];exact w _ F H (.refl s) (Al.of (.bl _))
  ·rw[if_neg h]at e;cases e
 |kt S=>
  unfold ð at e;dsimp only at e;by_cases h:d1.sc=Â/\S.all D.sc=Â
  ·rw[if_pos h]at e;cases e;obtain⟨a,vs,rfl,ha,hp⟩:=l2.kt;have hv:=Pr.vs (n:=0) (F:=F) (Ϙ:=H) (hp.mono λ_ _ q=>q) h.2;subst hv;have hx:=Al.v l1 h.1;subst hx;refine⟨a,_,rfl,.inr (.inr ha),D.flat h.1,u2 h.2,?_⟩;rw[HY h.1 h.2];exact w _ F H (.refl s) (Al.of (.bl _))
  ·rw[if_neg h]at e;cases e
 |_=>cases e
noncomputable def ee:List D->Option D
 |[.lst S]=>U (.int S.length)
 |[.tup S]=>U (.int S.length)
 |[.kt S]=>U (.int S.length)
 |[.dK ks _]=>U (.int ks.length)
 |[.str x]=>if x.length<=16777216 then U (.int x.length)else L
 |_=>L
def FQ (K:cm):List V->Hp->VK->Prop:=λxs H Q=>(∃p ys,xs=[.ref p]/\(ir K H p ys\/nG K H p ys)/\Q (.int ys.length) H)\/(∃z,xs=[.str z]/\z.length<=sizeLine/\Q (.int z.length) H)\/∃a eG,xs=[V.ref a]/\H a=U (.dK eG)/\Q (.int eG.length) H
theorem VM:iW X (.builtin "len") (FQ X.K):=TR.or (TU.or VF)
theorem YJ:By K G [n] k (FQ K) ee:=by
 intro F H vs S d Q s l e w;cases l with
 |cons h t=>
  cases t;rename_i d1 v;cases d1 with
  |lst xs=>cases e;obtain⟨a,us,rfl,ha,hp⟩:=h.lst s;refine .inl ⟨a,us,rfl,.inl ha,?_⟩;rw[←hp.length];exact w _ F H (.refl s) (Al.of (.int _))
  |tup xs=>cases e;obtain⟨a,us,rfl,ha,hp⟩:=h.tup s;refine .inl ⟨a,us,rfl,.inr (nG.of ha),?_⟩;rw[←hp.length];exact w _ F H (.refl s) (Al.of (.int _))
  |kt xs=>cases e;obtain⟨a,us,rfl,ha,hp⟩:=h.kt;refine .inl ⟨a,us,rfl,.inr (.inr ha),?_⟩;rw[←hp.length];exact w _ F H (.refl s) (Al.of (.int _))
  |str x=>
   unfold ee at e;dsimp only at e;by_cases hz:x.length<=16777216
   ·rw[if_pos hz]at e;cases e;exact .inr (.inl ⟨x,by rw[h.str],by rw[fu];exact hz,w _ F H (.refl s) (Al.of (.int _))⟩)
   ·rw[if_neg hz]at e;cases e
  |dK ks xs=>cases e;obtain⟨a,us,rfl,ha,hl,hp⟩:=h.dK s;refine .inr (.inr ⟨a,_,rfl,ha,?_⟩);rw[jT,←hl,lZ];exact w _ F H (.refl s) (Al.of (.int _))
  |_=>cases e
variable {ι:Type}{cap:List Nat}{pz:Expr}{ifs:List Expr}{om:List Mo}{own:Nat}{scope:qI}
theorem ŏ {Xs:ι->Cx}(hK:∀i,(Xs i).K=K)(h:∀i,XO (Xs i) G Y n e f):∃t,(∀i,PE (Xs i) e t)/\∀(F0 B F H:Hp) (Z:Env) (M:St) (d:D) (Q:VK),RS K G F0 B Y F H Z M->f Z=U d ->
  (∀v F' H' fp,kx F H F' H'->Ow K G F' H' n d v fp->fp.Nodup->(∀a∈fp,H a=L)->Q v H')->t M H Q:=by
 refine⟨λM H Q=>∀i,(h i).choose M H Q,λi cn s M H Q I q=>(h i).choose_spec.1 cn s M H Q I (q i),λF0 B F H Z M d Q rs e w i=>?_⟩;exact(h i).choose_spec.2 F0 B F H Z M d Q (by rw[hK i];exact rs) e λv F' H' fp x l=>w v F' H' fp x (by rw[←hK i];exact l)
def BB (X:Cx)(G:Nat->cr)(Y:List Mo)(ifs:List Expr)(f:BF):Prop:=∃t,Cp X ifs t/\∀(F0 B F H:Hp) (Z:Env) (M:St) (b:Bool) (Q:Bool->Hp->Prop),RS X.K G F0 B Y F H Z M->f Z=U b->(∀F' H',kx F H F' H'->Q b H')->t M H Q
noncomputable def fW:BF:=λ_=>U Â
theorem zy:BB X G Y [] fW:=⟨_,XZ,λF0 B F H Z M b Q rs e w=>by cases e;exact w F H (.refl rs.fh)⟩
theorem uk (h:XT X G Y c p):BB X G Y [c] p:=by obtain⟨t,pt,qt⟩:=h;exact⟨t,X0 pt,qt⟩
theorem Ŏ {Xs:ι->Cx}{f:BF}(hK:∀i,(Xs i).K=K)(h:∀i,BB (Xs i) G Y ifs f):∃t,(∀i,Cp (Xs i) ifs t)/\∀(F0 B F H:Hp) (Z:Env) (M:St) (b:Bool) (Q:Bool->Hp->Prop),RS K G F0 B Y F H Z M->f Z=U b ->
  (∀F' H',kx F H F' H'->Q b H')->t M H Q:=by
 refine⟨λM H Q=>∀i,(h i).choose M H Q,λi cn s M H Q I q=>(h i).choose_spec.1 cn s M H Q I (q i),λF0 B F H Z M d Q rs e w i=>?_⟩;exact(h i).choose_spec.2 F0 B F H Z M d Q (by rw[hK i];exact rs) e w
def CC (g:α->St->Hp->(St->Hp->Prop)->Prop):Prop:=∀v M H Q Q',(∀σ' H',Q σ' H'->Q' σ' H')->g v M H Q->g v M H Q'
def Av (X:Cx)(G:Nat->cr)(Y:List Mo)(own n:Nat)(tg:Expr)(g:D->Env->Option Env):Prop:=∃t,PG X tg t/\kJ own t/\CC t/\∀(F0 B F H:Hp) (Z ρ':Env) (M:St) (d:D) (v:V) (Q:St->Hp->Prop),RS X.K G F0 B Y F H Z M->Al X.K G F B n d v->g d Z=U ρ' ->
 (∀σ',RS X.K G F0 B Y F H ρ' σ'->Q σ' H)->t v M H Q
theorem ō {Xs:ι->Cx}{g:D->Env->Option Env}(hK:∀i,(Xs i).K=K)(h:∀i,Av (Xs i) G Y own n tg g):∃t,(∀i,PG (Xs i) tg t)/\kJ own t/\∀(F0 B F H:Hp) (Z ρ':Env) (M:St) (d:D) (v:V) (Q:St->Hp->Prop),RS K G F0 B Y F H Z M->Al K G F B n d v->g d Z=U ρ' ->
  (∀σ',RS K G F0 B Y F H ρ' σ'->Q σ' H)->t v M H Q:=by
 refine⟨λv M H Q=>∀i,(h i).choose v M H Q,λi cn s M H v u Q I r q=>(h i).choose_spec.1 cn s M H v u Q I r (q i),λv M H Q q i=>(h i).choose_spec.2.1 v M H Q (q i),λF0 B F H Z ρ' M d v Q rs l e w i=>?_⟩;exact(h i).choose_spec.2.2.2 F0 B F H Z ρ' M d v Q (by rw[hK i];exact rs) (by rw[hK i];exact l) e λσ' r=>w σ' (by rw[←hK i];exact r)
theorem WV (ho:i<own)(hm:Y[i]?=U (.ow 0))(hN:X.N.Nodup)(hi:X.N[i]?=U x)(hx:õ X.env.scope x)
  (hf:uZ X x:=by walk_at "v2"):Av X G Y own 0 (.Name x pos) (gV i):=by
 refine⟨_,Ou hN hi hx hf,U2 i own ho,λv M H Q Q' m q=>m _ _ q,λF0 B F H Z ρ' M d v Q rs l e w=>?_⟩;cases e;exact w _ (rs.set hm (.refl rs.fh) (Ow.zero l) dz λa z=>(by cases z))
def Di (own:Nat)(g:Bj):Prop:=∀v M H Q,g v M H Q->g v M H λσ' H'=>Q σ' H'/\σ'.length = M.length/\∀i,own<=i->σ'[i]? = M[i]?
def Bz (X:Cx)(G:Nat->cr)(Y:List Mo)(own n:Nat)(pH:List Expr)(g:List D->Env->Option Env):Prop:=∃t,CY X pH t/\Di own t/\CC t/\(∀S Z ρ',g S Z=U ρ'->S.length=pH.length)/\∀(F0 B F H:Hp) (Z ρ':Env) (M:St) (S:List D) (vs:List V) (Q:St->Hp->Prop),RS X.K G F0 B Y F H Z M->Pr (Al X.K G F B n) S vs->g S Z=U ρ' ->
 (∀σ',RS X.K G F0 B Y F H ρ' σ'->Q σ' H)->t vs M H Q
theorem u3:Bz X G Y own n [] Ô:=by
 refine⟨_,Ov,λv M H Q q=>⟨q.1,q.2,rfl,λ_ _=>rfl⟩,λv M H Q Q' m q=>⟨q.1,m _ _ q.2⟩,λS Z ρ' e=>?_,λF0 B F H Z ρ' M S vs Q rs l e w=>?_⟩
 ·cases S with
  |nil=>rfl
  |cons d S=>cases e
 ·cases l with
  |nil=>cases e;exact⟨rfl,w M rs⟩
  |cons _ _=>cases e
theorem xi (h1:Av X G Y own n tg gg)(h2:Bz X G Y own n pH gs)
  (hs:(ef (tg::pH) X.env).map (·.2)=lK tg X.env::(ef pH X.env).map (·.2):=by rfl):Bz X G Y own n (tg::pH) (È gg gs):=by
 obtain⟨t,pt,kt,mt,qt⟩:=h1;obtain⟨t2,tT,R0,Ml,Dk,tU⟩:=h2;refine⟨_,NP pt tT hs,λvs M H Q q=>?_,λvs M H Q Q' m q=>?_,λS Z ρ' e=>?_,λF0 B F H Z ρ' M S vs Q rs l e w=>?_⟩
 ·obtain⟨v,r,e,q⟩:=q;refine⟨v,r,e,mt _ _ _ _ _ (λσ' H' z=>?_) (kt v M H _ q)⟩;obtain⟨z1,z2,z3⟩:=z;refine Ml _ _ _ _ _ (λσ2 H2 y=>?_) (R0 r σ' H' Q z1);exact⟨y.1,y.2.1.trans z2,λi hi=>(y.2.2 i hi).trans (z3 i hi)⟩
 ·obtain⟨v,r,e,q⟩:=q;exact⟨v,r,e,mt _ _ _ _ _ (λσ' H' z=>Ml _ _ _ _ _ m z) q⟩
 ·cases S with
  |nil=>cases e
  |cons d S=>obtain⟨ρ1,h3,h4⟩:=cK e;rw[cB,cB,Dk _ _ _ h4]
 ·cases l with
  |nil=>cases e
  |cons h t'=>obtain⟨ρ1,h3,h4⟩:=cK e;exact⟨_,_,rfl,qt F0 B F H Z ρ1 M _ _ _ rs h h3 λσ1 r1=>tU F0 B F H ρ1 ρ' σ1 _ _ _ r1 t' h4 w⟩
theorem Ge (hc:X.calm=Â)(h:Bz X G Y own (n-1) pH gs)(hl:(ef pH X.env).length=pH.length:=by rfl)(m6:(ef pH X.env).findIdx? (·.1)=L:=by rfl):Av X G Y own n (.Tuple pH j pos) (gT gs):=by
 obtain⟨t,pt,kt,mt,lt,qt⟩:=h;refine⟨_,Pp (n:=pH.length) hc pt hl m6,λv M H Q q=>?_,λv M H Q Q' m q=>?_,λF0 B F H Z ρ' M d v Q rs l e w=>?_⟩
 ·obtain⟨a,xs,e,h1,h2,q⟩:=q;exact⟨a,xs,e,h1,h2,kt _ _ _ _ q⟩
 ·obtain⟨a,xs,e,h1,h2,q⟩:=q;exact⟨a,xs,e,h1,h2,mt _ _ _ _ _ m q⟩
 cases d with
 |tup S=>
  have:∃a vs,v=.ref a/\nG X.K H a vs/\Pr (Al X.K G F B (n-1)) S vs:=by
   cases n with
   |zero=>
    have l:Dt X.K G F (.tup S) v:=l;cases l with
    |tup q t=>exact⟨_,_,rfl,nG.of (rs.fh _ _ q),t.pr⟩
   |succ n=>
    rcases l with l|l
    ·cases l with
     |tup q t=>exact⟨_,_,rfl,nG.of (rs.fh _ _ q),t.pr.mono λ_ _=>Al.of⟩
    ·cases l with
     |tup q t=>exact⟨_,_,rfl,nG.of (rs.fh _ _ q),t⟩
  obtain⟨a,vs,rfl,ha,hp⟩:=this;exact⟨a,vs,rfl,ha,hp.length.symm.trans (lt _ _ _ e),qt F0 B F H Z ρ' M S vs Q rs hp e w⟩
 |_=>cases e
noncomputable def iB (Z:Env)(cap:List Nat):Env:=cap.map λi=>(Z[i]?).join
def i9 (Y:List Mo)(cap:List Nat):List Mo:=cap.map λi=>.al (((Y[i]?).map Mo.lv).getD 0)
noncomputable def t6 (g:D->Env->Option Env)(p:BF)(f:EF)(ρ0:Env):List D->Option (List D)
 |[]=>U []
 |d::S=>(g d ρ0).bind λρ1=>(p ρ1).bind λb=>if b=Â then(f ρ1).bind λy=>(t6 g p f ρ0 S).bind λys=>U (y::ys)else t6 g p f ρ0 S
def eJ (fi:Env->Option (List D))(own:Nat)(cap:List Nat)(g:D->Env->Option Env)(p:BF)(f:EF):EF:=λZ=>(fi Z).bind λS=>if S.length<=16777216 then(t6 g p f (cy own L++iB Z cap) S).bind λys=>U (.lst ys)else L
theorem SL.caps {F B H:Hp}{Y:List Mo}{Z:Env}{M:St}(rs:RS K G F0 B Y F H Z M):∀{cap:List Nat},(∀i∈cap,i<Y.length)->SL K G F H H (i9 Y cap) (iB Z cap) (lQ M cap) []
 |[],_=>.nil
 |i::cap,h=>by
  have ih:=SL.caps rs (cap:=cap) λj hj=>h j (ck _ hj);have hi:i<Y.length:=h i cg;have hm:Y[i]?=U Y[i]:=by simp[hi]
  show SL K G F H H (.al (((Y[i]?).map Mo.lv).getD 0)::i9 Y cap) ((Z[i]?).join::iB Z cap) ((M[i]?).join::lQ M cap) [];cases e:(Z[i]?).join with
  |none=>exact .no ih
  |some d=>obtain⟨v,hv,l⟩:=rs.get hm (zl e);rw[hv,hm];exact .al l ih
theorem SL.nones {F B H:Hp}{Y Jz:List Mo}{Z:Env}{M:St}{fp:List cr}(t:SL K G F B H Y Z M fp):∀{om:List Mo},SL K G F B H (om++Y) (cy om.length L ++ Z) (cy om.length L ++ M) fp
 |[]=>t
 |m::om=>.no (SL.nones (Jz:=Jz) t)
theorem NM {pos:oj}{c:Prop}
  (B:oz X scope N own cap) (hc:c) (ho:om.length=own) (kU:∀i∈cap,i<Y.length) (hi:C0 X c G Y n tg iter fi)
  (hg:∀cl ϛ fp s₀ H₀,Av (nu X scope cl N ϛ fp s₀ H₀) G (om++i9 Y cap) own n tg gg) (ht:∀cl ϛ fp s₀ H₀,BB (nu X scope cl N ϛ fp s₀ H₀) G (om++i9 Y cap) ifs p) (he:∀cl ϛ fp s₀ H₀,XO (nu X scope cl N ϛ fp s₀ H₀) G (om++i9 Y cap) k pz f)
  :
  ∃wi g tt te,EK X c tg iter wi/\kJ own g/\(∀cl ϛ fp s₀ H₀,PG (nu X scope cl N ϛ fp s₀ H₀) tg g)/\(∀cl ϛ fp s₀ H₀,Cp (nu X scope cl N ϛ fp s₀ H₀) ifs tt)/\(∀cl ϛ fp s₀ H₀,PE (nu X scope cl N ϛ fp s₀ H₀) pz te) /\
   ∀(F0 B F H:Hp) (Z:Env) (M:St) (d:D) (Q:VK),RS X.K G F0 B Y F H Z M->eJ fi own cap gg p f Z=U d->(∀v F' H' fp,kx F H F' H'->Ow X.K G F' H' (k+1) d v fp->fp.Nodup->(∀a∈fp,H a=L)->Q v H')->yI wi own cap g tt te M H Q:=by
 obtain⟨wi,pi,qi⟩:=hi;obtain⟨MD,pg,kg,qg⟩:=ō (K:=X.K) (Xs:=λz:List (Str×cr)×cr×List cr×cE×Hp=>nu X scope z.1 N z.2.1 z.2.2.1 z.2.2.2.1 z.2.2.2.2) (λ_=>rfl) (λz=>hg z.1 z.2.1 z.2.2.1 z.2.2.2.1 z.2.2.2.2);obtain⟨tt,pt,qt⟩:=Ŏ (K:=X.K) (Xs:=λz:List (Str×cr)×cr×List cr×cE×Hp=>nu X scope z.1 N z.2.1 z.2.2.1 z.2.2.2.1 z.2.2.2.2) (λ_=>rfl) (λz=>ht z.1 z.2.1 z.2.2.1 z.2.2.2.1 z.2.2.2.2);obtain⟨te,pe,qe⟩:=ŏ (K:=X.K) (Xs:=λz:List (Str×cr)×cr×List cr×cE×Hp=>nu X scope z.1 N z.2.1 z.2.2.1 z.2.2.2.1 z.2.2.2.2) (λ_=>rfl) (λz=>he z.1 z.2.1 z.2.2.1 z.2.2.2.1 z.2.2.2.2);refine⟨wi,MD,tt,te,pi,kg,(λcl ϛ fp s₀ H₀=>pg (cl,ϛ,fp,s₀,H₀)),(λcl ϛ fp s₀ H₀=>pt (cl,ϛ,fp,s₀,H₀)),(λcl ϛ fp s₀ H₀=>pe (cl,ϛ,fp,s₀,H₀)),λF0 B F H Z M r Q rs e w=>?_⟩;obtain⟨S,h1,h2⟩:=cK e;by_cases hz:S.length<=16777216
 case neg=>rw[if_neg hz]at h2;cases h2
 rw[if_pos hz]at h2;obtain⟨ys,h3,h4⟩:=cK h2;cases h4;refine qi F0 B F H Z M S _ rs h1 λϗ F1 H1 x1 ok A hA=>?_;have pG:=rs.ext x1;refine⟨λi m us H2=>m=S.length-i/\i<=S.length/\us.length<=i/\H2 A=U (.lst us)/\∃F2 yd zd fp,kx F1 H1 F2 H2/\F2 A=L/\iF (Ow X.K G F2 H2 k) yd us fp/\fp.Nodup/\(∀a∈fp,H1 a=L/\a≠A)/\t6 gg p f (cy own L++iB Z cap) (S.drop i)=U zd/\yd++zd=ys,
  ⟨S.length,rfl,gn _,cH _,zo,F1,[],ys,[],kx.newO x1.fh hA _,x1.fh.free hA,.nil,dz,λa z=>(by cases z),h3,rfl⟩,?_⟩
 rintro i m us H2 ⟨rfl,Rt,RQ,GP,F2,yd,zd,fp,x2,fA,ol,nd,hf,kW,GZ⟩;refine⟨GP,?_⟩;have Dx:=pG.ext x2;obtain⟨k1,k2⟩:=ok i F2 H2 x2.ff x2.hh x2.fh;by_cases vD:i<S.length
 ·right;have hd:S[i]?=U S[i]:=by simp[vD]
  obtain⟨go,yl⟩:=k1 _ hd;rw[tY vD]at kW;obtain⟨ρ1,h5,h6⟩:=cK kW;obtain⟨b,h7,h8⟩:=cK h6;refine⟨go,by rw[fu];omega,λx H3 y=>?_⟩;obtain⟨F3,x3,l⟩:=yl x H3 y;have Si:=Dx.ext x3;have sl:=SL.nones (Jz:=[]) (SL.caps Si kU) (om:=om);rw[ho]at sl;have Sj:RS X.K G F3 H3 (om++i9 Y cap) F3 H3 (cy own L++iB Z cap) (cy own L++lQ M cap):=⟨.refl _,.refl _,x3.fh,λ_ _ _ _ h=>h,[],sl,dz,λa z=>(by cases z)⟩;have A3:H3 A=U (.lst us):=x3.hh _ _ GP;have LM:F3 A=L:=x3.nf A _ GP nofun fA;refine qg F3 H3 F3 H3 _ ρ1 _ _ x _ Sj (l.mono (.refl _) (x2.trans x3).hh) h5 λσ1 r1=>?_;refine qt F3 H3 F3 H3 ρ1 σ1 b _ r1 h7 λF4 H4 x4=>?_;cases b with
  |false=>rw[if_neg cI]at h8 ⊢;have MJ:=x3.trans x4;refine⟨S.length-(i+1),by omega,rfl,vD,by omega,x4.hh _ _ A3,F4,yd,zd,fp,x2.trans MJ,x4.nf A _ A3 nofun LM,ol.mono λ_ _ _ _ o=>o.ext MJ,nd,hf,h8,GZ⟩
  |true=>
   rw[if_pos rfl]at h8 ⊢;obtain⟨yv,h9,GO⟩:=cK h8;obtain⟨zs,Q1,Q2⟩:=cK GO;cases Q2;refine qe F3 H3 F4 H4 ρ1 σ1 yv _ (r1.ext x4) h9 λv F5 H5 f5 x5 o5 n5 IP=>?_;have Ke:=(x3.trans x4).trans x5;have MK:=x4.trans x5;have A5:H5 A=U (.lst us):=MK.hh _ _ A3;have LN:F5 A=L:=MK.nf A _ A3 nofun LM;have A4:H4 A=U (.lst us):=x4.hh _ _ A3;have LS:∀a∈f5,a≠A:=λa z e=>by rw[e]at z;rw[IP A z]at A4;cases A4
   refine⟨A5,S.length-(i+1),by omega,rfl,vD,by rw[cV,kK];omega,zo,F5,yd++[yv],zs,fp++(f5++[]),?_,LN,?_,?_,?_,Q1,by rw[dR];exact GZ⟩
   ·have He:=x2.trans Ke;refine⟨He.ff,λa o h=>?_,λa o h=>?_,He.nf⟩
    ·rw[zm (zu h hA)];exact He.hh _ _ h
    ·rw[zm (λz=>by rw[z]at h;rw[LN]at h;cases h)];exact He.fh _ _ h
   ·refine(ol.mono λ_ _ f Ro o=>?_).append (.cons ?_ .nil)
    ·refine(o.ext Ke).frame (.refl _) λa z=>⟨zm (hf a (Ro a z)).2,((o.ext Ke).cells a z).1⟩
    ·exact o5.frame (.refl _) λa z=>⟨zm (LS a z),(o5.cells a z).1⟩
   ·rw[dA];refine cT.mpr ⟨nd,n5,λa z c hc e=>?_⟩;subst e;have:∃o,H2 a=U o:=let⟨o,h,_⟩:=(iF.cellsOf ol a z).2;⟨o,h⟩;obtain⟨o,ho⟩:=this;have:=x4.hh _ _ (x3.hh _ _ ho);rw[IP a hc]at this;cases this
   ·intro a z;rw[dA]at z;rcases cW.mp z with z|z
    ·exact hf a z
    ·refine⟨?_,LS a z⟩;have SS:=x2.trans (x3.trans x4);exact SS.hh.free (IP a z)
 ·left;refine⟨k2 (by omega),?_⟩
  have:S.drop i=[]:=vH (by omega);rw[this]at kW;cases kW;rw[dA]at GZ;subst GZ;refine w _ F2 H2 (A::fp) (x1.trans x2) (.inr (.lst fA GP ol)) (dG.mpr ⟨λz=>(hf A z).2 rfl,nd⟩) λa z=>?_;rcases cu.mp z with rfl|z
  ·exact x1.hh.free hA
  ·exact x1.hh.free (hf a z).1
theorem OJ {c:Prop}
  (B:oz X scope N own cap) (hc:c) (ho:om.length=own) (kU:∀i∈cap,i<Y.length) (hi:C0 X c G Y n tg iter fi)
  (hg:∀cl ϛ fp s₀ H₀,Av (nu X scope cl N ϛ fp s₀ H₀) G (om++i9 Y cap) own n tg gg) (ht:∀cl ϛ fp s₀ H₀,BB (nu X scope cl N ϛ fp s₀ H₀) G (om++i9 Y cap) ifs p) (he:∀cl ϛ fp s₀ H₀,XO (nu X scope cl N ϛ fp s₀ H₀) G (om++i9 Y cap) k pz f)
  (hs:Ao X iter:=by intro _;rfl):XO X G Y (k+1) (.ListComp pz [⟨tg,iter,ifs,0⟩] scope pos) (eJ fi own cap gg p f):=by
 obtain⟨wi,g,tt,te,pi,kg,pg,pt,pe,q⟩:=NM (k:=k) (pos:=pos) B hc ho kU hi hg ht he;exact⟨_,X1 B hc pi kg pg pt pe hs,q⟩
variable {qS:List Expr}{pt:oj}
noncomputable def GD:D->Option (List D)
 |.lst S=>U S
 |_=>L
theorem Hg (h:GD d=U S):d=.lst S:=by cases d<;>simp[GD]at h;subst h;rfl
def Ý (f:EF):Env->Option (List D):=λZ=>(f Z).bind GD
theorem Em {Ϙ:Hp}{a:cr}{vs:List V}(hp:Pr (Al K G F B n) S vs)(keep:∀F' H',dJ F F'->dJ B H'->dJ F' H'->ir K H' a vs):yU K G F B n (Ih K a) S:=by intro i F' H' s1 s2 s3;have hs:ir K H' a vs:=keep F' H' s1 s2 s3;refine⟨λd hd=>?_,λhl=>⟨vs,hs,by rw[←hp.length];exact hl⟩⟩;obtain⟨v,hv,l⟩:=hp.get' hd;refine⟨⟨vs,v,hs,hv⟩,λx H2 y=>?_⟩;obtain⟨e,y⟩:=y;subst e;have:=y vs hs;rw[hv]at this;cases this;exact⟨F',.refl s3,l.mono s1 (.refl _)⟩
theorem Dt.lst_inv {v:V}(h:Dt K G F (.lst S) v):∃a vs,v=.ref a/\ir K F a vs/\ç K G F S vs:=by
 cases h with
 |lst q t=>exact⟨_,_,rfl,q,t⟩
theorem vq (he:XE X G Y 0 e f):XI X G Y 0 tg e (Ý f):=by obtain⟨t,pt,qt⟩:=he;refine⟨_,Hq pt,λF0 B F H Z M S R rs e w=>?_⟩;obtain⟨d,h1,h2⟩:=cK e;rw[Hg h2]at h1;refine qt F0 B F H Z M _ _ rs h1 λv F' H' x l=>?_;obtain⟨a,vs,rfl,ha,hp⟩:=Dt.lst_inv l;exact⟨a,rfl,⟨vs,x.fh.seq ha⟩,w _ F' H' x (Em (Ϙ:=H') (n:=0) (hp.pr) λF2 H2 s1 s2 s3=>s3.seq (s1.seq ha))⟩
theorem yf (he:XE X G Y n e f):BA X G Y (n-1) tg e (Ý f):=by obtain⟨t,pt,qt⟩:=he;refine⟨_,Hq pt,λF0 B F H Z M S R rs e w=>?_⟩;obtain⟨d,h1,h2⟩:=cK e;rw[Hg h2]at h1;refine qt F0 B F H Z M _ _ rs h1 λv F' H' x l=>?_;obtain⟨a,vs,rfl,ha,hp⟩:=l.lst x.fh;exact⟨a,rfl,⟨vs,ha⟩,w _ F' H' x (Em (Ϙ:=H') hp λF2 H2 s1 s2 s3=>s2.seq ha)⟩
theorem XI.cc (h:XI X G Y n tg e fi):BA X G Y n tg e fi:=by obtain⟨t,pt,qt⟩:=h;refine⟨t,pt,λF0 B F H Z M S R rs e w=>qt F0 B F H Z M S R rs e λϗ F' H' x ok=>w ϗ F' H' x λi F2 H2 s1 s2 s3=>?_⟩;obtain⟨k1,k2⟩:=ok i F2 H2 s1 ((rs.ext x).bh.trans s2) s3;refine⟨λd hd=>?_,k2⟩;obtain⟨go,yl⟩:=k1 d hd;refine⟨go,λv H3 y=>?_⟩;obtain⟨F3,x3,l⟩:=yl v H3 y;exact⟨F3,x3,l.mono (.refl _) (rs.ext x).bh⟩
theorem SL.getA (h0:SL K G F B H Y Z M fp):Y[i]?=U (.al n)->Z[i]?=U (U d)->∃v,M[i]?=U (U v)/\Al K G F B n d v:=by
 induction h0 generalizing i with
 |nil=>intro e _;simp at e
 |@no m0 o0 Y Z M fp t ih=>
  intro e e';cases i with
  |zero=>have e:=e';simp at e
  |succ i=>simpa using ih (i:=i) (by simpa using e) (by simpa using e')
 |@al n0 d0 v0 Y Z M fp h t ih=>
  intro e e';cases i with
  |zero=>simp at e e';subst e;subst e';exact⟨_,rfl,h⟩
  |succ i=>simpa using ih (i:=i) (by simpa using e) (by simpa using e')
 |@px d0 v0 Y Z M fp h t ih=>
  intro e e';cases i with
  |zero=>simp at e
  |succ i=>simpa using ih (i:=i) (by simpa using e) (by simpa using e')
 |@so d0 x0 Y Z M C3 h t ih=>
  intro e e';cases i with
  |zero=>simp at e
  |succ i=>simpa using ih (i:=i) (by simpa using e) (by simpa using e')
 |@ow n0 d0 v0 Y Z M f0 C3 h t ih=>
  intro e e';cases i with
  |zero=>simp at e
  |succ i=>simpa using ih (i:=i) (by simpa using e) (by simpa using e')
theorem YK (i:Nat)(hm:Y[i]?=U (.al (n+1)):=by rfl)(hN:X.N[i]?=U x:=by rfl)(hv:sm X.env.scope x:=by walk_at "v1")(hd:kC x:=by decide)
  (kW:tI x:=by decide):XI X G Y n tg (.Name x pos) (Ý (C i)):=by
 refine⟨_,Hq (xm hN hv hd kW),λF0 B F H Z M S R rs e w=>?_⟩;obtain⟨d,h1,h2⟩:=cK e;rw[Hg h2]at h1;obtain⟨fp,sl,_,_⟩:=rs.sl;obtain⟨v,BK,l⟩:=sl.getA hm (zl h1);refine⟨v,BK,?_⟩;rcases l with l|l
 ·obtain⟨a,vs,rfl,ha,hp⟩:=Dt.lst_inv l;exact⟨a,rfl,⟨vs,rs.fh.seq ha⟩,w _ F H (.refl rs.fh) (Em (Ϙ:=H) (hp.pr.mono λ_ _=>Al.of) λF2 H2 s1 s2 s3=>s3.seq (s1.seq ha))⟩
 ·cases l with
  |lst ha hp=>exact⟨_,rfl,⟨_,ir.of (rs.bh _ _ ha)⟩,w _ F H (.refl rs.fh) (Em (Ϙ:=H) hp λF2 H2 s1 s2 s3=>ir.of (s2 _ _ ha))⟩
noncomputable def lI (lo:Int)(j:Nat):List D:=(cv j).map λ(t:Nat)=>.int (lo+(t:Int))
def jS:List D->Option (List D)
 |[.int j]=>if -4611686018427387904<=j/\j<4611686018427387904 then U (lI 0 j.toNat)else L
 |_=>L
def rZ:List D->Option (List D)
 |[.int i,.int j]=>if -4611686018427387904<=i/\i<4611686018427387904/\-4611686018427387904<=j/\j<4611686018427387904 then U (lI i (j-i).toNat)else L
 |_=>L
theorem PH {lo:Int}:yU K G F B n (EC lo j) (lI lo j):=by
 intro i F' H' s1 s2 s3;unfold lI;refine⟨λd hd=>?_,λhl=>(show j<=i by simpa using hl)⟩;rw[dm]at hd;by_cases h:i<j
 ·rw[fY h]at hd;cases hd;refine⟨h,λx H2 y=>?_⟩;obtain⟨e,y⟩:=y;subst e;subst y;exact⟨F',.refl s3,Al.of (.int _)⟩
 ·rw[wD (by simpa using h)]at hd;cases hd
theorem yh (hm:X.mg "range"=L)(ha:XA X G Y [a] [m] fs)(hg:Gl X "range":=by rfl)(hs:SN X a:=by rfl):XI X G Y n tg (.Call (.Name "range" pp) [a] [] pos) (λZ=>(fs Z).bind jS):=by
 obtain⟨t,pt,_,qt⟩:=ha;refine⟨_,Vw hg hm pt hs,λF0 B F H Z M S R rs e w=>?_⟩;obtain⟨tJ,h1,h2⟩:=cK e;refine qt F0 B F H Z M _ _ rs h1 λvs F' H' x l=>?_;cases l with
 |cons h t=>
  cases t;rename_i d v;cases d with
  |int j=>
   unfold jS at h2;dsimp only at h2;by_cases hj:-4611686018427387904<=j/\j<4611686018427387904
   ·rw[if_pos hj]at h2;cases h2;exact⟨j,by rw[h.int],by omega,by omega,w _ F' H' x PH⟩
   ·rw[if_neg hj]at h2;cases h2
  |_=>cases h2
theorem u4 {m':Nat}(hm:X.mg "range"=L)(ha:XA X G Y [a,b] [m,m'] fs)(hg:Gl X "range":=by rfl)(hs:dD [a,b] X.env=[(Ã,eF a X.env),(Ã,eF b X.env)]:=by rfl)(tS:SN X b:=by rfl):XI X G Y n tg (.Call (.Name "range" pp) [a,b] [] pos) (λZ=>(fs Z).bind rZ):=by
 obtain⟨t,pt,_,qt⟩:=ha;refine⟨_,Vx hg hm pt hs tS,λF0 B F H Z M S R rs e w=>?_⟩;obtain⟨tJ,h1,h2⟩:=cK e;refine qt F0 B F H Z M _ _ rs h1 λvs F' H' x l=>?_;cases l with
 |cons h t=>
  cases t with
  |cons h' t=>
   cases t;rename_i d v d' v';cases d with
   |int i=>
    cases d' with
    |int j=>
     unfold rZ at h2;dsimp only at h2;by_cases hj:-4611686018427387904<=i/\i<4611686018427387904/\-4611686018427387904<=j/\j<4611686018427387904
     ·rw[if_pos hj]at h2;cases h2;exact⟨i,j,by rw[h.int,h'.int],⟨by omega,by omega,by omega,by omega⟩,w _ F' H' x PH⟩
     ·rw[if_neg hj]at h2;cases h2
    |_=>cases h2
   |_=>cases h2
noncomputable def iX (i:Nat):List D->List D
 |[]=>[]
 |d::S=>.tup [.int i,d]::iX (i+1) S
theorem Kf:∀{S:List D} {j i:Nat} {d:D},(iX j S)[i]?=U d->∃x,S[i]?=U x/\d=.tup [.int (j+i:Nat),x]
 |[],_,_,_,h=>by simp[iX]at h
 |x::S,j,0,d,h=>by simp[iX]at h;subst h;exact⟨x,rfl,rfl⟩
 |x::S,j,i+1,d,h=>by obtain⟨y,h1,h2⟩:=Kf (S:=S) (j:=j+1) (i:=i) (d:=d) (by simpa[iX]using h);exact⟨y,by simpa using h1,by rw[h2,Nat.add_assoc,wG 1 i]⟩
theorem Nv:∀{S:List D} {j:Nat},(iX j S).length=S.length
 |[],_=>rfl
 |_::S,j=>by simp[iX,Nv (S:=S)]
theorem PJ {a:cr}{vs:List V}(hp:Pr (Al K G F B n) S vs)(keep:∀F' H',dJ F F'->dJ B H'->dJ F' H'->ir K H' a vs):yU K G F B (n+1) (Ig K a) (iX 0 S):=by intro i F' H' s1 s2 s3;have hs:ir K H' a vs:=keep F' H' s1 s2 s3;refine⟨λd hd=>?_,λhl=>⟨vs,hs,by rw[←hp.length];rw[Nv]at hl;exact hl⟩⟩;obtain⟨x,hx,rfl⟩:=Kf hd;obtain⟨v,hv,l⟩:=hp.get' hx;refine⟨⟨vs,v,hs,hv⟩,λz H2 y=>?_⟩;obtain⟨r,y',hr,rfl,rfl,y⟩:=y;have:=y vs hs;rw[hv]at this;cases this;refine⟨_,kx.newS s3 hr _,.inr (.tup zo (.cons (Al.of ?_) (.cons (l.mono (s1.trans (wg (s3.free hr) _)) (.refl _)) .nil)))⟩;rw[Nat.zero_add];exact .int _
theorem OK {kt:Nat}(hm:X.mg "enumerate"=L)(ha:XA X G Y [a] [0] fs)(hg:Gl X "enumerate":=by rfl)(hs:SN X a:=by rfl) :
  XI X G Y 1 (.Tuple qS kt pt) (.Call (.Name "enumerate" pp) [a] [] pos) (λZ=>(fs Z).bind λS=>match S with|[.lst xs]=>U (iX 0 xs)|_=>L):=by
 obtain⟨t,pt,_,qt⟩:=ha;refine⟨_,OD hg hm pt hs,λF0 B F H Z M S R rs e w=>?_⟩;obtain⟨tJ,h1,h2⟩:=cK e;refine qt F0 B F H Z M _ _ rs h1 λvs F' H' x l=>?_;cases l with
 |cons h t=>
  cases t;rename_i d v;cases d with
  |lst xs=>cases h2;obtain⟨a,vs,rfl,ha,hp⟩:=Dt.lst_inv h;exact⟨a,rfl,⟨vs,x.fh.seq ha⟩,w _ F' H' x (PJ (n:=0) hp.pr λF2 H2 s1 s2 s3=>s3.seq (s1.seq ha))⟩
  |_=>cases h2
theorem WW {kt:Nat}(hm:X.mg "enumerate"=L)(ha:XA X G Y [a] [n] fs)(hg:Gl X "enumerate":=by rfl)(hs:SN X a:=by rfl) :
  BA X G Y (n-1+1) (.Tuple qS kt pt) (.Call (.Name "enumerate" pp) [a] [] pos) (λZ=>(fs Z).bind λS=>match S with|[.lst xs]=>U (iX 0 xs)|_=>L):=by
 obtain⟨t,pt,_,qt⟩:=ha;refine⟨_,OD hg hm pt hs,λF0 B F H Z M S R rs e w=>?_⟩;obtain⟨tJ,h1,h2⟩:=cK e;refine qt F0 B F H Z M _ _ rs h1 λvs F' H' x l=>?_;cases l with
 |cons h t=>
  cases t;rename_i d v;cases d with
  |lst xs=>cases h2;obtain⟨a,vs,rfl,ha,hp⟩:=h.lst x.fh;exact⟨a,rfl,⟨vs,ha⟩,w _ F' H' x (PJ hp λF2 H2 s1 s2 s3=>s2.seq ha)⟩
  |_=>cases h2
variable {fj:EF}{p1 mq:oj}
theorem Ow.lst_inv {v:V}(h:Ow K G F H (k+1) (.lst S) v fp):∃a vs fr,v=.ref a/\fp=a::fr/\F a=L/\H a=U (.lst vs)/\iF (Ow K G F H k) S vs fr:=by
 rcases h with⟨h,_⟩|h
 ·cases h
 ·cases h with
  |lst h1 h2 h3=>exact⟨_,_,_,rfl,rfl,h1,h2,h3⟩
theorem Ow.dK_inv {v:V}(h:Ow K G F H (k+1) (.dK ks S) v fp):∃a vs fr,v=.ref a/\fp=a::fr/\F a=L/\H a=U (.dK (ks.zip vs))/\ks.length=vs.length/\iF (Ow K G F H k) S vs fr:=by
 rcases h with⟨h,_⟩|h
 ·cases h
 ·cases h with
  |dK h1 h2 h3 h4=>exact⟨_,_,_,rfl,rfl,h1,h2,h3,h4⟩
theorem Ow.dT_inv {ks:List (List i6)}{v:V}(h:Ow K G F H (k+1) (.dT ks S) v fp):∃a vs fr,v=.ref a/\fp=a::fr/\F a=L/\H a=U (.dT (ks.zip vs))/\ks.length=vs.length/\iF (Ow K G F H k) S vs fr:=by
 rcases h with⟨h,_⟩|h
 ·cases h
 ·cases h with
  |dT h1 h2 h3 h4=>exact⟨_,_,_,rfl,rfl,h1,h2,h3,h4⟩
theorem RS.change {d':D}{v:V}{f1 fr fn:List cr}{ad:cr}{o:HO}(rs:RS K G F0 B Y F H Z M)(hm:Y[i]?=U (.ow k))(x:kx F H F' H')
  (hσ:M[i]?=U (U v)) (b1:∀a∈f1,B a=L) (dj:∀a∈f1,a∉fr) (cf:∀a∈fr,F a=L/\∃o,H a=U o/\mK o)
  (put:∀(F' H':Hp) (d':D) (v':V) (f':List cr),dJ F F'->dJ B H'->dJ F' H'->(∀a o,B a=U o->mK o->F0 a=L->F' a=L)->(∀a∈fr,H' a=H a/\F' a=L)->Ow K G F' H' k d' v' f'->f'.Nodup->(∀a∈f',a∉fr)->(∀a∈f',B a=L) ->
    RS K G F0 B Y F' H' (Z.set i (U d')) (M.set i (U v')))
  (LY:ad∈f1) (QR:F' ad=L) (o':Ow K G F' (upd H' ad o) k d' v fn) (nd:fn.Nodup) (D0:∀a∈fn,a∈f1\/H a=L):RS K G F0 B Y F' (upd H' ad o) (Z.set i (U d')) M:=by
 have r:=rs.ext x;have hB:B ad=L:=b1 ad LY;have res:=put F' (upd H' ad o) d' v fn x.ff (λz u h=>by rw[zm (λe=>by rw[e,hB]at h;cases h)];exact r.bh _ _ h) (λz u h=>by rw[zm (λe=>by rw[e,QR]at h;cases h)];exact x.fh _ _ h) r.nf
  (λz hz=>by obtain⟨hn,o,ho,nt⟩:=cf z hz;refine⟨?_,x.nf z o ho nt hn⟩;have ne:z≠ad:=λe=>dj ad LY (by rw[←e];exact hz);rw[zm ne];exact(x.hh _ _ ho).trans ho.symm) o' nd
  (λz hz zr=>by
   rcases D0 z hz with h|h
   ·exact dj z h zr
   ·obtain⟨_,o,ho,nt⟩:=cf z zr;rw[h]at ho;cases ho)
  (λz hz=>(D0 z hz).elim (b1 z) λh=>rs.bh.free h)
 have e:M.set i (U v) = M:=by
  apply qK;intro j;by_cases hj:i=j
  ·subst hj;rw[nZ (by have:=de.mp hσ;exact this.1),hσ]
  ·rw[lc hj]
 rw[e]at res;exact res
def ô (i:Nat)(f:EF):SF:=λZ=>(C i Z).bind λo=>(f Z).bind λd=>match o with
 |.lst S=>if S.length<16777216 then U (.nx (Z.set i (U (.lst (S++[d])))))else L
 |_=>L
theorem u5 (i:Nat)(hm:Y[i]?=U (.ow (k+1)))(he:XO X G Y k e f)(hN:X.N[i]?=U x:=by rfl)(hv:sm X.env.scope x:=by walk_at "v1")(hd:kC x:=by decide)
  (kW:tI x:=by decide) (m6:SE X e []:=by rfl)
  (lR:xU (.Name x p1) "append" X.env (eF (.Name x p1) X.env)=eF (.Name x p1) X.env:=by rfl)
  (pP:Co X fN [e]:=by rfl)
  (lS:(fQ.endLine==fN.line)=Â:=by rfl) (jQ:pL X fN []:=by rfl)
  (BJ:gQ (.Call (.Attribute (.Name x p1) "append" fQ) [e] [] fN) L pos.line X.env=pure Ã:=by rfl) :
  XS X G Y rk (.Expr (.Call (.Attribute (.Name x p1) "append" fQ) [e] [] fN) pos) (ô i f):=by
 obtain⟨t,pt,qt⟩:=he;refine⟨_,KW (DM PySem.F.plainAttrs_list PySem.F.slot_list_append PySem.F.type_list_append Nh (xm hN hv hd kW) (yj pt wz m6) lR pP lS m6 jQ) BJ,λF0 B F H Z M o E rs e z=>?_⟩;obtain⟨d1,d2,h1,h2,h3⟩:=eL e;obtain⟨f1,fr,n1,b1,dj,i4,cf,put⟩:=rs.put (F':=F) (H':=H) hm;obtain⟨v,hσ,ow⟩:=i4 d1 (zl h1);refine⟨v,hσ,?_⟩;cases d1 with
 |lst S=>
  dsimp only at h3;by_cases hz:S.length<16777216
  ·rw[if_pos hz]at h3;cases h3;obtain⟨ad,vs,Cu,rfl,rfl,hF,hH,ol⟩:=ow.lst_inv;refine⟨.inl ⟨rfl,_,ir.of hH⟩,qt F0 B F H Z M d2 _ rs h2 λv2 F' H' fp x1 o2 CD Bn=>?_⟩;have hA:H' ad=U (.lst vs):=x1.hh _ _ hH;have fA:F' ad=L:=x1.nf ad _ hH nofun hF;have nA:∀a∈fp,a≠ad:=λa hz e=>by rw[e]at hz;rw[Bn ad hz]at hH;cases hH
   have D5:=dG.mp n1;refine⟨ad,vs,v2,rfl,rfl,hA,by rw[←ol.length,fu];exact hz,?_⟩;refine z M F' _ (rs.change hm x1 hσ b1 dj cf put cg fA (.inr (.lst fA zo ((ol.mono λ_ _ f' hi o'=>?_).append (.cons (f:=fp) ?_ .nil)))) (fn:=ad::(Cu++(fp++[]))) ?_ ?_)
   ·refine(o'.ext x1).frame (.refl _) λa ha=>⟨zm λe=>D5.1 (e▸hi a ha),((o'.ext x1).cells a ha).1⟩
   ·exact o2.frame (.refl _) λa ha=>⟨zm (nA a ha),(o2.cells a ha).1⟩
   ·rw[dA];refine dG.mpr ⟨λhz=>?_,cT.mpr ⟨D5.2,CD,λa ha b hb e=>?_⟩⟩
    ·rcases cW.mp hz with hz|hz
     ·exact D5.1 hz
     ·exact nA ad hz rfl
    ·subst e;obtain⟨_,o,ho,_⟩:=iF.cellsOf ol a ha;rw[Bn a hb]at ho;cases ho
   ·intro a ha;rw[dA]at ha;rcases cu.mp ha with rfl|ha
    ·exact .inl cg
    ·rcases cW.mp ha with ha|ha
     ·exact .inl (ck _ ha)
     ·exact .inr (Bn a ha)
  ·rw[if_neg hz]at h3;cases h3
 |_=>cases h3
def mI (S:List D)(i:Int)(d:D):Option (List D):=(ò S.length i).bind λj=>U (S.set j d)
noncomputable def nS [DecidableEq κ](ks:List κ)(S:List D)(k:κ)(d:D):List κ×List D:=if ks.contains k=Â then(ks,(ks.zip S).map λp=>if p.1=k then d else p.2)else(ks++[k],S++[d])
def sW (i:Nat)(fj f:EF):SF:=λZ=>(f Z).bind λd=>(C i Z).bind λo=>(fj Z).bind λj=>match o,j with
 |.lst S,.int z=>(mI S z d).bind λtJ=>U (.nx (Z.set i (U (.lst tJ))))
 |_,_=>L
theorem iF.set0 {R:D->V->List cr->Prop}{d:D}{v:V}(r:R d v [])(z:∀d v f,R d v f->f=[]):∀{S:List D} {vs:List V} {fp:List cr} (i:Nat),iF R S vs fp->iF R (S.set i d) (vs.set i v) []
 |_,_,_,_,.nil=>.nil
 |_,_,_,0,.cons h t=>by have:=iF.cons (f:=[]) (g:=[]) r (iF.ofPr (t.pr λd v f _ q=>by have:=z _ _ _ q;subst this;exact q));exact this
 |_,_,_,i+1,.cons h t=>by have e:=z _ _ _ h;subst e;exact iF.cons (f:=[]) (g:=[]) h (iF.set0 r z i t)
theorem Ow.nil0 {v:V}(h:Ow K G F H 0 d v fp):fp=[]:=h.2
theorem iF.nil0 {vs:List V}(h:iF (Ow K G F H 0) S vs fp):fp=[]:=by
 induction h with
 |nil=>rfl
 |cons h t ih=>rw[h.nil0,ih];rfl
theorem OL (i:Nat){j:Expr}(hm:Y[i]?=U (.ow 1))(hj:XE X G Y n j fj)(he:XE X G Y 0 e f)(hN:X.N[i]?=U x:=by rfl)(hv:sm X.env.scope x:=by walk_at "v1")(hd:kC x:=by decide)
  (kW:tI x:=by decide)
  (ha:∀v,lK (.Subscript (.Name x p1) j mq) X.env v=(do
   let ov ← f9 [v] (eF (.Name x p1) X.env)
   let iv ← f9 [v,ov] (eF j X.env)
   kA mq
   f9 [v,ov,iv] (tG ov iv v)
   Ab [v,ov,iv] []):=by intro _;rfl)
  (hs:rR [.Subscript (.Name x p1) j mq] e pos.line X.env=pure Ã:=by rfl) (hw:rQ [.Subscript (.Name x p1) j mq] e X.env=pure L:=by rfl)
  (h1:(ef [.Subscript (.Name x p1) j mq] X.env).map (·.2)=[lK (.Subscript (.Name x p1) j mq) X.env]:=by rfl) :
  XS X G Y rk (.Assign [.Subscript (.Name x p1) j mq] e pos) (sW i fj f):=by
 obtain⟨t,pt,qt⟩:=he;obtain⟨tj,Do,Dp⟩:=hj;refine⟨_,Ld pt (Pq (xm hN hv hd kW) Do Kr ha) hs hw h1,λF0 B F H Z M o E rs e z=>?_⟩;obtain⟨d,g1,g2⟩:=cK e;obtain⟨d1,Aw,g3,g4,g5⟩:=eL g2;refine qt F0 B F H Z M d _ rs g1 λv0 F1 H1 x1 l0=>?_;have pG:=rs.ext x1;obtain⟨f1,fr,n1,b1,dj,i4,cf,put⟩:=pG.put (F':=F) (H':=H) hm;obtain⟨v,hσ,ow⟩:=i4 d1 (zl g3);refine⟨v,hσ,Dp F0 B F1 H1 Z M Aw _ pG g4 λvj F2 H2 x2 lj=>?_⟩;cases d1 with
 |lst S=>
  cases Aw with
  |int zi=>obtain⟨tJ,g6,g7⟩:=cK g5;cases g7;obtain⟨jn,g8,g9⟩:=cK g6;cases g9;obtain⟨ad,vs,Cu,rfl,rfl,hF,hH,ol⟩:=ow.lst_inv;have hA:H2 ad=U (.lst vs):=x2.hh _ _ hH;have fA:F2 ad=L:=x2.nf ad _ hH nofun hF;have e0:=ol.nil0;subst e0;refine⟨ad,vs,zi,jn,rfl,lj.int,hA,by rw[←ol.length];exact g8,?_⟩;refine z M F2 _ (pG.change hm x2 hσ b1 dj cf put cg fA (.inr (.lst fA zo (iF.set0 ⟨Dt.mono x2.ff l0,rfl⟩ (λ_ _ _ q=>q.2) jn (ol.mono λ_ _ _ _ q=>⟨q.1.mono x2.ff,q.2⟩)))) (fn:=[ad]) (by simp) ?_);intro a ha;rw[cG]at ha;subst ha;exact .inl cg
  |_=>cases g5
 |_=>cases g5
theorem Jv {cn:List (cr×iZ)}{s:cE}{l:cr}{xs:List V}(I:Ë X cn M H s)(hH:Rd H l (.lst xs)):xs.length<=sizeLine/\∃(dZ:List cj) (n:Nat),dU xs dZ/\xs.length=dZ.length/\s.heap.get? l=U { cls:=.type "list",data:=.seq dZ.toArray n }:=by obtain⟨z,dZ,n,r,e⟩:=hH.ok I.hok;exact⟨z,dZ,n,r,r.length,e⟩
def CJ (K:cm):R2:=λx y H Q=>∃l b xs zs,x=.ref l/\y=.ref b/\ir K H l xs/\ir K H b zs/\xs.length+zs.length<=sizeLine/\∀p,H p=L->Q (.ref p) (upd H p (.lst (xs++zs)))
theorem YL:li X (gI .Add) (CJ X.K):=by
 intro cn s M H x y v u Q I rx ry h;obtain⟨l,b,xs,zs,rfl,rfl,hH,hB,hz,q⟩:=h;cases rx;cases ry;obtain⟨dZ,r,⟨⟨cls,dd,data,sl⟩,n,e,c1,c2,c3⟩,z⟩:=I.list hH;obtain⟨BO,r2,⟨⟨Ip,GI,data2,Bv⟩,n2,e2,c4,c5,c6⟩,z2⟩:=I.list hB;simp only at c1 c3 c4 c6;subst c1 c3 c4 c6;have hl:=r.length;have vR:=r2.length;refine Aa ⟨_,e,rfl⟩ ⟨_,e2,rfl⟩ noFill_list_add seq_list_add PySem.F.slot_list_add PySem.F.entry_list_add (PySem.F.args_list_add_2 _ _) (list_addW l b dZ.toArray BO.toArray n n2 dd GI sl Bv (by rw[cU,cU];omega)) ⟨e,e2,?_⟩;have ea:dZ.toArray++BO.toArray=(dZ++BO).toArray:=by simp
 rw[ea];exact⟨.ref _,_,I.lnew (t':=s.toks) (r.append r2) (by rw[cV];omega),rfl,q _ I.fresh⟩
def FK:R2:=λx y H Q=>∃i j,x=.str i/\y=.str j/\i.length+j.length<=sizeLine/\Q (.str (i++j)) H
def BW (K:cm):R2:=λx y H Q=>wN (λi j=>.int (i+j)) x y H Q\/FK x y H Q\/CJ K x y H Q\/CK K x y H Q
theorem YM:li X (gI .Add) (BW X.K):=li.or Zt (li.or UU (li.or YL Yl))
noncomputable def dF:D->D->Option D
 |.int i,.int j=>U (.int (i+j))
 |.str x,.str y=>if x.length+y.length<=16777216 then U (.str (x++y))else L
 |.lst xs,.lst ys=>if xs.length+ys.length<=16777216 then U (.lst (xs++ys))else L
 |.tup xs,.tup ys=>if xs.isEmpty=Ã/\ys.isEmpty=Ã/\xs.length+ys.length<=1000000 then U (.tup (xs++ys))else L
 |_,_=>L
theorem Pr.ow0 {vs:List V}(h:Pr (Al K G F Ϙ 0) S vs):iF (Ow K G F H 0) S vs []:=iF.ofPr (h.mono λ_ _ q=>⟨q,rfl⟩)
theorem Al.lst1 {v:V}(hn:n<=1)(h:Al K G F Ϙ n (.lst S) v)(s:dJ F Ϙ):∃a vs,v=.ref a/\ir K Ϙ a vs/\Pr (Al K G F Ϙ 0) S vs:=by
 obtain⟨a,vs,e,h1,h2⟩:=h.lst s;have:n-1=0:=by omega
 rw[this]at h2;exact⟨a,vs,e,h1,h2⟩
theorem Al.tup1 {v:V}(hn:n<=1)(h:Al K G F Ϙ n (.tup S) v)(s:dJ F Ϙ):∃a vs,v=.ref a/\Ϙ a=U (.tup vs)/\Pr (Al K G F Ϙ 0) S vs:=by
 obtain⟨a,vs,e,h1,h2⟩:=h.tup s;have:n-1=0:=by omega
 rw[this]at h2;exact⟨a,vs,e,h1,h2⟩
theorem jt {vs:List V}{Q:VK}(s:dJ F H)(hp:Pr (Al K G F H 0) S vs)(w:∀v F' H' fp,kx F H F' H'->Ow K G F' H' 1 (.lst S) v fp->fp.Nodup->(∀a∈fp,H a=L)->Q v H'):∀p,H p=L->Q (.ref p) (upd H p (.lst vs)):=λp h0=>by obtain⟨o,nd⟩:=OE s (hp.ow0 (H:=H)) h0;exact w _ F _ [p] (kx.newO s h0 _) o (nd dz) λa z=>by rw[cG]at z;subst z;exact h0
theorem YN (hn:n<=1)(hm:m<=1):EG K G n m 1 (BW K) dF:=by
 intro F H x y d1 d2 d Q s l1 l2 e w;have ws:∀d v,d.sc=Â->Dt K G F d v->(∀v F' H' fp,kx F H F' H'->Ow K G F' H' 1 d v fp->fp.Nodup->(∀a∈fp,H a=L)->Q v H')->Q v H:=λd v hs hd w=>w v F H [] (.refl s) (Ow.scal hd hs) dz λa z=>(by cases z);cases d1 with
 |int i=>
  cases d2 with
  |int j=>cases e;exact .inl ⟨i,j,l1.int,l2.int,ws _ _ rfl (.int _) w⟩
  |_=>cases e
 |str i=>
  cases d2 with
  |str j=>
   unfold dF at e;dsimp only at e;by_cases hz:i.length+j.length<=16777216
   ·rw[if_pos hz]at e;cases e;exact .inr (.inl ⟨i,j,l1.str,l2.str,by rw[fu];exact hz,ws _ _ rfl (.str _) w⟩)
   ·rw[if_neg hz]at e;cases e
  |_=>cases e
 |lst xs=>
  cases d2 with
  |lst ys=>
   unfold dF at e;dsimp only at e;by_cases hz:xs.length+ys.length<=16777216
   ·rw[if_pos hz]at e;cases e;obtain⟨a,vs,rfl,ha,hp⟩:=Al.lst1 hn l1 s;obtain⟨b,us,rfl,hb,hq⟩:=Al.lst1 hm l2 s;exact .inr (.inr (.inl ⟨a,b,vs,us,rfl,rfl,ha,hb,by rw[←hp.length,←hq.length,fu];exact hz,jt s (hp.append hq) w⟩))
   ·rw[if_neg hz]at e;cases e
  |_=>cases e
 |tup xs=>
  cases d2 with
  |tup ys=>
   unfold dF at e;dsimp only at e;by_cases hz:xs.isEmpty=Ã/\ys.isEmpty=Ã/\xs.length+ys.length<=1000000
   ·rw[if_pos hz]at e;cases e;obtain⟨a,vs,rfl,ha,hp⟩:=Al.tup1 hn l1 s;obtain⟨b,us,rfl,hb,hq⟩:=Al.tup1 hm l2 s;have hl:=hp.length;have vR:=hq.length;have e1:vs≠[]:=λz=>by rw[z]at hl;have:=uX.mp hl;rw[this]at hz;exact absurd hz.1 (by decide)
    have e2:us≠[]:=λz=>by rw[z]at vR;have:=uX.mp vR;rw[this]at hz;exact absurd hz.2.1 (by decide)
    refine .inr (.inr (.inr ⟨a,b,vs,us,rfl,rfl,nG.of ha,nG.of hb,e1,by rw[←hl,←vR,fu];omega,λz=>absurd z e2,λ_ p h0=>?_⟩));have x2:=kx.newS s h0 (.tup (vs++us));exact w _ _ _ [] x2 (.inr (.tup zo (iF.ofPr ((hp.append hq).mono λ_ _ q=>⟨Dt.mono x2.ff q,rfl⟩)))) dz λa z=>(by cases z)
   ·rw[if_neg hz]at e;cases e
  |_=>cases e
 |_=>cases e
def FR:R2:=λx y H Q=>∃l k xs,x=.ref l/\y=.int k/\Rd H l (.lst xs)/\-(2 ^ 63)<=k/\k<2 ^ 63/\xs.length*k.toNat<=sizeLine /\
 ∀p,H p=L->Q (.ref p) (upd H p (.lst (cy k.toNat xs).flatten))
theorem YO:li X (gI .Mult) FR:=by
 intro cn s M H x y v u Q I rx ry h;obtain⟨l,k,xs,rfl,rfl,hH,h1,h2,hz,q⟩:=h;cases rx;obtain⟨t,rfl⟩:=ry;obtain⟨z,dZ,n,r,hl,e⟩:=Jv I hH;have iu:dZ.toArray.size*k.toNat<=sizeLine:=by rw[cU,←hl];exact hz
 have kU:¬dZ.toArray.size*k.toNat > (2 ^ 63-1)/8:=by
  have:(sizeLine:Nat)<=(2 ^ 63-1)/8:=by decide
  omega
 have IQ:¬(!Builtin.List.listFitsIndex k)=Â:=by rw[fitsIndex_both h1 h2];exact cI
 have Fb:¬Builtin.List.listTooLong (dZ.toArray.size*k.toNat)=Â:=by rw[AR iu];exact cI
 have IZ:yL (λx1 x2=>x1++x2) #[] (cy (if dZ.toArray.isEmpty=Â then 0 else k.toNat) dZ.toArray)=(cy k.toNat dZ).flatten.toArray:=by
  have f0:∀m:Nat,yL (λx1 x2=>x1++x2) #[] (cy m dZ.toArray)=(cy m dZ).flatten.toArray:=λm=>by have:=Ng dZ m [];rw[A8]at this;exact this
  rw[f0];cases dZ with
  |nil=>simp
  |cons a r'=>rw[if_neg (by simp)]
 refine wpAny_binaryOp_repeat_ref (T:="list") (U:="int") (by decide) ⟨_,e,rfl⟩ (λs'=>Ck s' k t) noFill_list_mul F.fills_int_mul F.slot_int_rmul repeat_list F.slot_int_index.lookup
  (nj F.slot_int_rmul (Ck s k t) F.entry_int_rmul (F.args_int_rmul_2 _ _) (int___rmul___int_list k t l dZ.toArray n)
   ⟨e,rfl,⟨_,e,rfl⟩,nj F.slot_list_mul ⟨_,e,rfl⟩ F.entry_list_mul (F.args_list_mul_2 _ _) (AutoListH.list___mul___list_int_3 l dZ.toArray n k t IQ kU Fb) ⟨e,?_⟩⟩)
 rw[IZ];exact⟨.ref _,_,I.lnew (t':=s.toks) (r.rep k.toNat) (by rw[Yn,Nat.mul_comm];exact hz),rfl,q _ I.fresh⟩
theorem WX:rV K G n m k (rI t4 λi j=>.int (i*j)) n6:=YD
noncomputable def sV:D->D->Option D
 |.lst xs,.int j=>if -1000000<j/\j<1000000/\xs.length<=16 then U (.lst (cy j.toNat xs).flatten)else L
 |_,_=>L
theorem Ll (ha:XO X G Y 1 a f)(hb:XE X G Y m b g):XO X G Y 1 (.BinOp a .Mult b pos) (e2 sV f g):=by
 obtain⟨ta,pa,qa⟩:=ha;obtain⟨tb,pb,qb⟩:=hb;refine⟨_,Ls YO pa pb,λF0 B F H Z M d Q rs e w=>?_⟩;obtain⟨d1,d2,h1,h2,h3⟩:=eL e;refine qa F0 B F H Z M d1 _ rs h1 λv F1 H1 fp x1 o nd hf=>?_;refine qb F0 B F1 H1 Z M d2 _ (rs.ext x1) h2 λv2 F2 H2 x2 l2=>?_;cases d1 with
 |lst xs=>
  cases d2 with
  |int j=>
   unfold sV at h3;dsimp only at h3;by_cases hz:-1000000<j/\j<1000000/\xs.length<=16
   ·rw[if_pos hz]at h3;cases h3;obtain⟨ad,vs,fr,rfl,rfl,hF,hH,ol⟩:=(o.ext x2).lst_inv;have hp:Pr (Al X.K G F2 H2 0) xs vs:=ol.pr λ_ _ _ _ q=>q.1;have MI:=x1.trans x2;refine⟨ad,j,vs,rfl,l2.int,.inl hH,by omega,by omega,?_,jt x2.fh (hp.rep _) λv F' H' fp x o nd hf=>w v F' H' fp (MI.trans x) o nd λz hz=>MI.hh.free (hf z hz)⟩;rw[←hp.length,fu];have h1:j.toNat<=1000000:=by omega
    have h2:xs.length*j.toNat<=16*1000000:=Nat.mul_le_mul hz.2.2 h1;omega
   ·rw[if_neg hz]at h3;cases h3
  |_=>cases h3
 |_=>cases h3
noncomputable def xJ:D->Option D
 |.int i=>U (.int (-i))
 |_=>L
theorem Gn (ha:XE X G Y n a f):XE X G Y k (.UnaryOp .USub a pos) (e1 xJ f):=by
 refine ő Zx (λF H x d1 d Q s l e w=>?_) ha;cases d1 with
 |int i=>cases e;exact⟨i,l.int,w _ F H (.refl s) (Al.of (.int _))⟩
 |_=>cases e
theorem YQ {u:cj}(hg:Gl X x)(hm:X.mg x=U u)(hs:d.sc=Â)(r:Í d.v u)(hd:kC x:=by decide):XE X G Y n (.Name x pos) (eC d):=by
 refine⟨_,KS hg hm r hd,λF0 B F H Z M d' Q rs e w=>?_⟩;cases e;refine w _ F H (.refl rs.fh) (Al.of ?_);cases d with
 |non=>exact .non
 |bl b=>exact .bl b
 |int b=>exact .int b
 |str b=>exact .str b
 |_=>cases hs
noncomputable def rE:List D->Option D
 |[.lst S]=>U (.lst S)
 |[.tup S]=>U (.lst S)
 |_=>L
theorem Kv (hn:n<=1):EH K G [n] 1 (λxs H Q=>∃p ys,xs=[.ref p]/\(ir K H p ys\/nG K H p ys)/\∀l,H l=L->Q (.ref l) (upd H l (.lst ys))) rE:=by
 intro F H vs S d Q s l e w;cases l with
 |cons h t=>
  cases t;rename_i d1 v;cases d1 with
  |lst xs=>cases e;obtain⟨a,us,rfl,ha,hp⟩:=Al.lst1 hn h s;exact⟨a,us,rfl,.inl ha,jt s hp w⟩
  |tup xs=>cases e;obtain⟨a,us,rfl,ha,hp⟩:=Al.tup1 hn h s;exact⟨a,us,rfl,.inr (nG.of ha),jt s hp w⟩
  |_=>cases e
abbrev PF:=Env->Option (Option Int)
noncomputable def î:PF:=λ_=>U L
noncomputable def Û (f:EF):PF:=λZ=>(f Z).bind λd=>match d with
 |.int i=>U (U i)
 |_=>L
def XP (X:Cx)(G:Nat->cr)(Y:List Mo)(e:Option Expr)(f:PF):Prop:=∃t,PO X e t/\∀(F0 B F H:Hp) (Z:Env) (M:St) (o:Option Int) (Q:Option Int->Hp->Prop),RS X.K G F0 B Y F H Z M->f Z=U o->(∀F' H',kx F H F' H'->Q o H')->t M H Q
theorem ju:XP X G Y L î:=⟨_,Yj,λF0 B F H Z M o Q rs e w=>by cases e;exact w F H (.refl rs.fh)⟩
theorem xl (h:XE X G Y n e f):XP X G Y (U e) (Û f):=by
 obtain⟨t,pt,qt⟩:=h;refine⟨_,Yk pt,λF0 B F H Z M o Q rs e w=>?_⟩;obtain⟨d,h1,h2⟩:=cK e;refine qt F0 B F H Z M d _ rs h1 λv F' H' x l=>?_;cases d with
 |int i=>cases h2;exact⟨i,l.int,w F' H' x⟩
 |_=>cases h2
def á (xs:List D)(lo hi:Option Int):List D:=(xs.drop (HT.sIx xs.length 0 lo)).take (HT.sIx xs.length xs.length hi-HT.sIx xs.length 0 lo)
theorem OM {vs:List V}{lo hi:Option Int}(h:Pr R S vs):Pr R (á S lo hi) (uL vs lo hi):=by unfold á uL;rw[h.length];exact(h.drop _).take _
def d7 (d:D)(lo hi:Option Int):Option D:=match d with
 |.lst xs=>U (.lst (á xs lo hi))
 |_=>L
theorem xb {lo hi:Option Expr}{pl ph:PF}{p1}(hn:n<=1)(he:XE X G Y n e f)(hl:XP X G Y lo pl)(hh:XP X G Y hi ph):XO X G Y 1 (.Subscript e (.Slice lo hi L p1) pos) (λZ=>(f Z).bind λd=>(pl Z).bind λl=>(ph Z).bind λh=>d7 d l h):=by
 obtain⟨t,pt,qt⟩:=he;obtain⟨t1,zK,zL⟩:=hl;obtain⟨t2,tT,tU⟩:=hh;refine⟨_,NU Ym pt zK tT,λF0 B F H Z M r Q rs e w=>?_⟩;obtain⟨d,l,h1,h2,h3⟩:=eL e;obtain⟨hh,h4,h5⟩:=cK h3;refine qt F0 B F H Z M d _ rs h1 λv F1 H1 x1 l1=>?_;refine zL F0 B F1 H1 Z M l _ (rs.ext x1) h2 λF2 H2 x2=>?_;refine tU F0 B F2 H2 Z M hh _ ((rs.ext x1).ext x2) h4 λF3 H3 x3=>?_;cases d with
 |lst xs=>cases h5;have rK:=x2.trans x3;obtain⟨a,vs,rfl,ha,hp⟩:=Al.lst1 hn (l1.mono rK.ff rK.hh) rK.fh;exact⟨a,vs,rfl,ha,jt rK.fh (OM hp) λv F' H' fp x o nd hf=>w v F' H' fp ((x1.trans rK).trans x) o nd λz hz=>(x1.trans rK).hh.free (hf z hz)⟩
 |_=>cases h5
noncomputable def Im:List D->Option D
 |[.int i]=>U (.int (if i<0 then -i else i))
 |_=>L
noncomputable def ii (g:Int->Int->D):List D->Option D
 |[.int i,.int j]=>U (g i j)
 |_=>L
theorem Z0 {g:Int->Int->D}(hg:∀i j F,Dt K G F (g i j) (gv i j)):By K G [n,m] k (λxs H Q=>∃i j,xs=[.int i,.int j]/\Q (gv i j) H) (ii g):=by
 intro F H vs S d Q s l e w;cases l with
 |cons h t=>
  cases t with
  |cons h' t=>
   cases t;rename_i d1 v d2 v2;cases d1 with
   |int i=>
    cases d2 with
    |int j=>cases e;exact⟨i,j,by rw[h.int,h'.int],w _ F H (.refl s) (Al.of (hg i j F))⟩
    |_=>cases e
   |_=>cases e
def uB:List D->Option D:=ii λi j=>.int (if j > i then j else i)
def Fz:List D->Option D:=ii λi j=>.int (if j<i then j else i)
theorem Kw:By K G [n,m] k (λxs H Q=>∃i j,xs=[.int i,.int j]/\Q (.int (if j > i then j else i)) H) uB:=Z0 λ_ _ _=>.int _
def AW (i:Nat)(o:D->D->Option D)(f:EF):SF:=λZ=>(C i Z).bind λx=>(f Z).bind λy=>(o x y).bind λd=>U (.nx (Z.set i (U d)))
theorem PK {gi:Int->Int->Int}(ho:DS X op (G1 gi))(hm:Y[i]?=U (.ow k))(hN:X.N.Nodup)(hi:X.N[i]?=U x)(hx:õ X.env.scope x)(he:XE X G Y n e f)(hf:uZ X x:=by walk_at "v2") :
  XS X G Y rk (.AugAssign (.Name x pos') op e pos) (AW i (i2 λi j=>.int (gi i j)) f):=by
 obtain⟨t,pt,qt⟩:=he;refine⟨_,Zr hN hi hx pt ho hf,λF0 B F H Z M o E rs e z=>?_⟩;obtain⟨d1,d2,h1,h2,h3⟩:=eL e;obtain⟨d,h4,h5⟩:=cK h3;cases h5;obtain⟨v,hv,l⟩:=rs.get hm (zl h1);refine⟨v,hv,qt F0 B F H Z M d2 _ rs h2 λy F' H' x1 l2=>?_⟩;cases d1 with
 |int i'=>
  cases d2 with
  |int j'=>cases h4;exact⟨i',j',l.int,l2.int,z _ F' H' (rs.set hm x1 (Ow.scal (.int _) rfl) dz λa z=>(by cases z))⟩
  |_=>cases h4
 |_=>cases h4
noncomputable def ă (i j:Nat)(fs:Env->Option (List D)):SF:=λZ=>(fs Z).bind λS=>match S with
 |[x,y]=>U (.nx ((Z.set i (U x)).set j (U y)))
 |_=>L
noncomputable def í (g:D->Env->Option Env)(f:EF):SF:=λZ=>(f Z).bind λd=>(g d Z).bind λρ'=>U (.nx ρ')
theorem PL (he:XE X G Y 0 e f)(hg:XG X G Y 0 tg gg)(hs:rR [tg] e pos.line X.env=pure Ã:=by rfl)(hw:rQ [tg] e X.env=pure L:=by rfl)
  (h1:(ef [tg] X.env).map (·.2)=[lK tg X.env]:=by rfl):XS X G Y rk (.Assign [tg] e pos) (í gg f):=by
 obtain⟨t,pt,qt⟩:=he;obtain⟨t2,tT,tU⟩:=hg;refine⟨_,Ld pt tT hs hw h1,λF0 B F H Z M o E rs e z=>?_⟩;obtain⟨d,h1,h2⟩:=cK e;obtain⟨ρ',h3,h4⟩:=cK h2;cases h4;exact qt F0 B F H Z M d _ rs h1 λv F' H' x l=>tU F0 B F' H' Z ρ' M d v _ (rs.ext x) l h3 λσ' r=>z σ' F' H' r
noncomputable def mC:List Nat->List Mo->Bool
 |[],_=>Â
 |n::ns,.al m::Y=>decide (n=m)&&mC ns Y
 |n::ns,.ow m::Y=>decide (n=0)&&decide (m=0)&&mC ns Y
 |_,_=>Ã
theorem u6:∀{pm:List Nat} {Y:List Mo},mC pm Y=Â->∀(i n:Nat),pm[i]?=U n->Y[i]?=U (Mo.al n)\/(n=0/\Y[i]?=U (Mo.ow 0))
 |[],_,_,i,n,e=>by simp at e
 |x::ns,.al m::Y,h,i,n,e=>by
  simp only[mC,cY,decide_eq_true_eq]at h;cases i with
  |zero=>simp at e;subst e;rw[h.1];exact .inl rfl
  |succ i=>simpa using u6 h.2 i n (by simpa using e)
 |x::ns,.ow m::Y,h,i,n,e=>by
  simp only[mC,cY,decide_eq_true_eq]at h;cases i with
  |zero=>simp at e;subst e;rw[h.1.1,h.1.2];exact .inr ⟨rfl,rfl⟩
  |succ i=>simpa using u6 h.2 i n (by simpa using e)
 |_::_,[],h,_,_,_=>by simp[mC]at h
 |_::_,.px _::_,h,_,_,_=>by simp[mC]at h
 |_::_,.so _::_,h,_,_,_=>by simp[mC]at h
noncomputable def Cr (X:Cx)(scope:qI)(N:List Str)(own:Nat)(cap:List Nat):Bool :=
 decide (scope.kind=.function)&&scope.names.all (λx=>(decide (x.2≠.cell) || decide (scope.names.lookup x.1=U .cell))&&(decide (x.2≠.local) || decide (scope.names.lookup x.1=U .local))&&(decide (x.2≠.free) || (decide (X.env.kindOf x.1=U .cell) || decide (X.env.kindOf x.1=U .free)))) &&
 decide (N.length=own+cap.length)&&(cv cap.length).all λj=>match N[own+j]?,cap[j]? with
  |some x,U i=>decide (X.N[i]?=U x)&&decide (scope.names.lookup x=U .free)
  |_,_=>Ã
theorem Lm (h:Cr X scope N own cap=Â):oz X scope N own cap:=by
 unfold Cr at h;simp only[cY,decide_eq_true_eq,dE,n9]at h;obtain⟨⟨⟨h1,h2⟩,h3⟩,h4⟩:=h;refine⟨h1,λx hx hl=>((h2 x hx).1.1).elim (λz=>absurd hl z) id,λx hx hl=>((h2 x hx).1.2).elim (λz=>absurd hl z) id,λx hx hf=>((h2 x hx).2).elim (λz=>absurd hf z) id,h3,λj x hj=>?_⟩;have Md:j<cap.length:=by have:=(de.mp hj).1;omega
 have q:=h4 j (cD.mpr Md);rw[hj]at q;have hc:cap[j]?=U cap[j]:=by simp[Md]
 rw[hc]at q;simp only[cY,decide_eq_true_eq]at q;exact⟨_,hc,q.1,q.2⟩
noncomputable def Hd:D->Option String
 |.non=>U "NoneType"
 |.bl _=>U "bool"
 |.int _=>U "int"
 |.str _=>U "str"
 |.lst _=>U "list"
 |.tup _=>U "tuple"
 |.dK _ _=>U "dict"
 |_=>L
def MF (K:cm)(H:Hp)(v:V)(t:String):Prop:=pM K H v (.type t)\/(t = "list"/\∃a xs,v=.ref a/\ir K H a xs)
theorem Al.ty {v:V}{t:String}(s:dJ F H)(h:Al K G F H n d v)(e:Hd d=U t):MF K H v t:=by
 cases d with
 |non=>cases e;rw[h.non];exact .inl .non
 |bl b=>cases e;rw[h.bl];exact .inl (.bl b)
 |int b=>cases e;rw[h.int];exact .inl (.int b)
 |str b=>cases e;rw[h.str];exact .inl (.str b)
 |lst xs=>cases e;obtain⟨a,vs,rfl,ha,_⟩:=h.lst s;exact .inr ⟨rfl,a,vs,rfl,ha⟩
 |tup xs=>cases e;obtain⟨a,vs,rfl,ha,_⟩:=h.tup s;exact .inl (.tup ha)
 |dK ks xs=>cases e;obtain⟨a,vs,rfl,ha,_⟩:=h.dK s;exact .inl (.dK ha)
 |_=>cases e
theorem VN:iW X (.builtin "isinstance") (λxs H Q=>∃x c t b,xs=[x,.ty c]/\MF X.K H x t/\gj X.K (.type t) (.type c)=U b/\Q (.bl b) H):=by
 intro cn s M H xs us Q I r h;obtain⟨x,c,t,b,rfl,ty,e,q⟩:=h;rcases ty with ty|⟨rfl,a,ys,rfl,hq⟩
 ·exact WK cn s M H _ us Q I r ⟨x,c,_,b,rfl,ty,e,q⟩
 ·obtain⟨u,w',rfl,ru,zN⟩:=ú r;cases(show w'=cj.type c from zN);cases(show u=cj.ref a from ru);obtain⟨dZ,rv,⟨o,n,h1,h2,_⟩,_⟩:=I.list hq;exact eE pU I.kIn ⟨o,h1,h2⟩ e (λz=>nomatch z) λtk=>⟨.bl b,H,I.tok tk,rfl,q⟩
noncomputable def Fx (t c:String):Bool:=t==c || (t == "bool" && c == "int")
theorem YR:∀t∈(["NoneType","bool","int","str","list","tuple","dict"]:List String),∀c∈(["bool","int","str","list","tuple","dict"]:List String),gj K (.type t) (.type c)=U (Fx t c):=by intro t ht c hc;simp only[cu,dO,or_false]at ht hc;rcases ht with rfl|rfl|rfl|rfl|rfl|rfl|rfl<;>rcases hc with rfl|rfl|rfl|rfl|rfl|rfl<;>rfl
theorem YS {t:String}(e:Hd d=U t):t∈(["NoneType","bool","int","str","list","tuple","dict"]:List String):=by cases d<;>simp[Hd]at e<;>subst e<;>decide
variable {p2:oj}
def sM (c:String)(d:D):Option D:=(Hd d).bind λt=>U (.bl (Fx t c))
theorem Gp {c:String}(hc:c∈(["bool","int","str","list","tuple","dict"]:List String))(hm:X.mg "isinstance"=L)(pA:X.mg c=L)(hb:d9 c=U (.type c))(he:XE X G Y n e f)(hg:Gl X "isinstance":=by rfl)(Bo:Gl X c:=by rfl)(yZ:Str.ofString c≠"__name__":=by decide)(hd2:(Str.ofString c==("__debug__":Str))=Ã:=by decide)
  (Fi:dD [e,.Name c p2] X.env=(Ã,eF e X.env)::dD [.Name c p2] X.env:=by rfl) (tS:dD [.Name c p2] X.env=(Ã,eF (.Name c p2) X.env)::dD [] X.env:=by rfl) (kL:(jG pos (dD [.Name c p2] X.env)).any (·.1)=Ã:=by rfl) :
  XE X G Y k (.Call (.Name "isinstance" pp) [e,.Name c p2] [] pos) (e1 (sM c) f):=by
 obtain⟨t,pt,qt⟩:=he;refine⟨_,Kq VN hg hm uz (yj pt (yj (X8 (v:=.ty c) Bo pA hb rfl yZ hd2) wz tS) Fi) (by decide) (by decide) Fi kL,λF0 B F H Z M d Q rs e w=>?_⟩;obtain⟨d1,h1,h2⟩:=cK e;obtain⟨ty,h3,h4⟩:=cK h2;cases h4;exact qt F0 B F H Z M d1 _ rs h1 λv F' H' x l=>⟨v,c,ty,_,rfl,l.ty x.fh h3,YR _ (YS h3) _ hc,w _ F' H' x (Al.of (.bl _))⟩
def uD (K:cm):Sp:=λvs H Q _=>∃(a:cr) (ns:List Int),vs=[.ref a]/\ir K H a (ns.map V.int)/\ns.length<=63/\∀H',Q (.bl Â) H'
theorem ç.ints {K:cm}{G:Nat->cr}{F:Hp}:∀ns:List Int,ç K G F (ns.map D.int) (ns.map V.int)
 |[]=>.nil
 |n::ns=>.cons (.int n) (ç.ints ns)
theorem Z1 {w:dP}{f:cr}{fd:cz}{m:List D->Option D}(Fn:dL P w K mg base fJ k f fd ps (iH K G [0] 0 m))
  (h:∀ns:List Int,ns.length<=63->m [.lst (ns.map .int)]=U (.bl Â)):dL P w K mg base fJ k f fd ps (uD K):=by
 have to:∀vs H Q E,uD K vs H Q E->iH K G [0] 0 m vs H Q E:=by
  rintro vs H Q E ⟨a,ns,rfl,hS,hl,q⟩;refine⟨H,[.lst (ns.map .int)],.bl Â,.refl _,.cons (Dt.lst hS (ç.ints ns)) .nil,h ns hl,λv F' H' fp x o nd hf=>?_⟩;have hv:v=.bl Â:=by have o:Dt K G F' (.bl Â) v/\fp=[]:=o;cases o.1;rfl
  subst hv;exact q H'
 exact⟨λvs H Q E z=>Fn.len vs H Q E (to vs H Q E z),λA outer s H args us vs Q E hr e0 hb hv z=>Fn.run A outer s H args us vs Q E hr e0 hb hv (to vs H Q E z)⟩
theorem Nw {g:D->Env->Option Env}{b:SF}(I:List D->Env->Prop)(all:List D)(st:∀pre d post Z,all=pre++d::post->I pre Z->∃ρ1 ρ2,g d Z=U ρ1/\(b ρ1=U (.nx ρ2)\/b ρ1=U (.ct ρ2))/\I (pre++[d]) ρ2):∀(S pre:List D) (Z:Env),all=pre++S->I pre Z ->
  ∃ρ',gX g b S Z=U (.nx ρ')/\I all ρ'
 |[],pre,Z,e,h=>⟨Z,rfl,by rw[e,dA];exact h⟩
 |d::S,pre,Z,e,h=>by obtain⟨ρ1,ρ2,h1,h2,h3⟩:=st pre d S Z e h;obtain⟨ρ',h4,h5⟩:=Nw I all st S (pre++[d]) ρ2 (by rw[e];simp) h3;refine⟨ρ',?_,h5⟩;show(g d Z).bind _=_;rw[h1];show(b ρ1).bind _=_;rcases h2 with h2|h2<;>(rw[h2];exact h4)
theorem ub {g:D->Env->Option Env}{b:SF}(I:List D->Env->Prop)(h:I [] Z)(st:∀pre d post Z,S=pre++d::post->I pre Z->∃ρ1 ρ2,g d Z=U ρ1/\(b ρ1=U (.nx ρ2)\/b ρ1=U (.ct ρ2))/\I (pre++[d]) ρ2) :
  ∃ρ',gX g b S Z=U (.nx ρ')/\I S ρ':=Nw I S st S [] Z rfl h
theorem HJ {all pre post:List α}{d:α}(h:all=pre++d::post):all[pre.length]?=U d:=by subst h;simp
theorem Kg {α ϙ:Type}{g:D->Env->Option Env}{b:SF}(enc:α->D)(st:ϙ->Env)(f:ϙ->α->ϙ)(P:ϙ->Prop):∀(xs:List α) (s:ϙ),P s ->
  (∀s x,x∈xs->P s->∃ρ1,g (enc x) (st s)=U ρ1/\(b ρ1=U (.nx (st (f s x)))\/b ρ1=U (.ct (st (f s x))))/\P (f s x))->gX g b (xs.map enc) (st s)=U (.nx (st (xs.foldl f s)))/\P (xs.foldl f s)
 |[],s,hp,_=>⟨rfl,hp⟩
 |x::xs,s,hp,h=>by obtain⟨ρ1,h1,h2,h3⟩:=h s x cg hp;have ih:=Kg enc st f P xs (f s x) h3 λs y hy=>h s y (ck _ hy);refine⟨?_,ih.2⟩;show(g (enc x) (st s)).bind _=_;rw[h1];show(b ρ1).bind _=_;rcases h2 with h2|h2<;>(rw[h2];exact ih.1)
theorem Nx {g:D->Env->Option Env}{b:SF}(I:Nat->Env->Prop)(lo:Int):∀(n k:Nat) (Z:Env),I k Z ->
  (∀j Z,k<=j->j<k+n->I j Z->∃ρ1 ρ2,g (.int (lo+(j:Int))) Z=U ρ1/\(b ρ1=U (.nx ρ2)\/b ρ1=U (.ct ρ2))/\I (j+1) ρ2) ->
  ∃ρ',gX g b ((List.range' k n).map λ(t:Nat)=>D.int (lo+(t:Int))) Z=U (.nx ρ')/\I (k+n) ρ'
 |0,k,Z,h,_=>⟨Z,rfl,h⟩
 |n+1,k,Z,h,st=>by obtain⟨ρ1,ρ2,h1,h2,h3⟩:=st k Z (cH _) (by omega) h;obtain⟨ρ',h4,h5⟩:=Nx I lo n (k+1) ρ2 h3 λj Z hj hl hI=>st j Z (by omega) (by omega) hI;refine⟨ρ',?_,by rw[show k+(n+1)=k+1+n by omega];exact h5⟩;rw[List.range'_succ,cL];show(g _ Z).bind _=_;rw[h1];show(b ρ1).bind _=_;rcases h2 with h2|h2<;>(rw[h2];exact h4)
theorem w8 {g:D->Env->Option Env}{b:SF}(I:Nat->Env->Prop){lo:Int}(h:I 0 Z)
  (st:∀j Z,j<n->I j Z->∃ρ1 ρ2,g (.int (lo+(j:Int))) Z=U ρ1/\(b ρ1=U (.nx ρ2)\/b ρ1=U (.ct ρ2))/\I (j+1) ρ2):∃ρ',gX g b (lI lo n) Z=U (.nx ρ')/\I n ρ':=by
 obtain⟨ρ',h1,h2⟩:=Nx (g:=g) (b:=b) I lo n 0 Z h λj Z _ hj hI=>st j Z (by omega) hI;rw[Nat.zero_add]at h2;exact⟨ρ',by unfold lI;rw[List.range_eq_range'];exact h1,h2⟩
theorem jv {c:BF}{b:SF}(I:Env->Prop)(μ:Env->Nat)(st:∀Z,I Z->∃t,c Z=U t/\(t=Â->∃ρ',(b Z=U (.nx ρ')\/b Z=U (.ct ρ'))/\I ρ'/\μ ρ' < μ Z)) :
  ∀(n:Nat) (Z:Env),I Z->μ Z<n->∃ρ',qW c b n Z=U (.nx ρ')/\I ρ'/\c ρ'=U Ã
 |0,_,_,h=>absurd h (by omega)
 |n+1,Z,hI,h=>by
  obtain⟨t,h1,h2⟩:=st Z hI;cases t with
  |false=>exact⟨Z,by show(c Z).bind _=_;rw[h1];rfl,hI,h1⟩
  |true=>obtain⟨ρ',h3,h4,h5⟩:=h2 rfl;obtain⟨ρ2,h6,h7,h8⟩:=jv I μ st n ρ' h4 (by omega);refine⟨ρ2,?_,h7,h8⟩;show(c Z).bind _=_;rw[h1];show(b Z).bind _=_;rcases h3 with h3|h3<;>(rw[h3];exact h6)
theorem YT (h:n<2 ^ k)(hk:k<=9000):n<vN:=di h (lA (by decide) hk)
theorem ON (h:n<1048576):n<vN:=YT (k:=20) h (by decide)
theorem vt {i j:Int}(h1:0<j)(h2:j<4611686018427387904):kG (.int i) (.int j)=U (.int (i/j)):=by unfold kG;simp[h1,h2]
theorem u7 {i j:Int}(h:0<j):i7 (.int i) (.int j)=U (.int (i%j)):=by unfold i7;simp[h]
theorem Ę {i j:Int}(h1:-18446744073709551616<j)(h2:j<18446744073709551616):n6 (.int i) (.int j)=U (.int (i*j)):=by simp[n6,AJ,rF,h1,h2]
theorem Ĉ {i j:Int}(h1:-18446744073709551616<i)(h2:i<18446744073709551616):n6 (.int i) (.int j)=U (.int (i*j)):=by simp[n6,AJ,rF,h1,h2]
theorem ě {i j:Int}(h1:0<=j)(h2:j<=1000000)(h3:i.natAbs<18446744073709551616):AT (.int i) (.int j)=U (.int (i ^ j.toNat)):=by simp[AT,AJ,uC,h1,h2,h3]
theorem ĩ {i j:Int}(h1:0<=j)(h2:j<=1000000)(h3:i.natAbs<18446744073709551616):B0 (.int i) (.int j)=U (.int (i*2 ^ j.toNat)):=by simp[B0,AJ,uC,h1,h2,h3]
theorem Ě {i j:Int}(h1:0<=j):zO (.int i) (.int j)=U (.int (i/2 ^ j.toNat)):=by simp[zO,AJ,h1]
theorem Ė (i j:Int):dF (.int i) (.int j)=U (.int (i+j)):=rfl
theorem ve {xs ys:List D}(h:xs.length+ys.length<=16777216):dF (.lst xs) (.lst ys)=U (.lst (xs++ys)):=by simp[dF,h]
variable {y:Str}
theorem xu (h:x.length+y.length<=16777216):dF (.str x) (.str y)=U (.str (x++y)):=by simp[dF,h]
theorem ĕ (i j:Int):nc (.int i) (.int j)=U (.int (i-j)):=rfl
theorem vv (i j:Int):tL (.int i) (.int j)=U (.bl (decide (i<j))):=rfl
theorem ē (i j:Int):zH (.int i) (.int j)=U (.bl (decide (i<=j))):=rfl
theorem vw (i j:Int):wM (.int i) (.int j)=U (.bl (decide (j<i))):=rfl
theorem Ē (i j:Int):Cv (.int i) (.int j)=U (.bl (decide (j<=i))):=rfl
theorem Ĩ (i:Int):xJ (.int i)=U (.int (-i)):=rfl
theorem ya (S:List D):ee [.lst S]=U (.int S.length):=rfl
theorem Ĕ (S:List D):ee [.tup S]=U (.int S.length):=rfl
theorem ħ (i:Int):Im [.int i]=U (.int (if i<0 then -i else i)):=rfl
theorem ĝ (i j:Int):uB [.int i,.int j]=U (.int (if j > i then j else i)):=rfl
theorem Ĝ (i j:Int):Fz [.int i,.int j]=U (.int (if j<i then j else i)):=rfl
theorem ę (neg:Bool)(d:D):pQ neg d .non=U (.bl (if neg then !d.isN else d.isN)):=by cases d<;>rfl
theorem ė (neg b:Bool)(d:D):pQ neg d (.bl b)=U (.bl (if neg then !d.isB b else d.isB b)):=by cases d<;>rfl
theorem qj (b:Bool):xB (.bl b)=U b:=rfl
theorem vx (S:List D):GD (.lst S)=U S:=rfl
theorem xf (S:List D)(l h:Option Int):d7 (.lst S) l h=U (.lst (á S l h)):=rfl
theorem xw {j:Int}(h1:-4611686018427387904<=j)(h2:j<4611686018427387904):jS [.int j]=U (lI 0 j.toNat):=by simp[jS,h1,h2]
theorem u8 {i j:Int}(h1:-4611686018427387904<=i)(h2:i<4611686018427387904)(h3:-4611686018427387904<=j)(h4:j<4611686018427387904):rZ [.int i,.int j]=U (lI i (j-i).toNat):=by simp[rZ,h1,h2,h3,h4]
theorem K0 (enc:α->D){xs:List α}{i:Int}{x:α}(hi:i=(j:Int)\/i=(j:Int)-xs.length)(h:xs[j]?=U x):atI (xs.map enc) i=U (enc x):=by
 have hj:=(de.mp h).1;unfold L2.atI L2.ò;rw[cA];rcases hi with rfl|rfl
 ·rw[if_pos (by omega),if_pos (by omega)];simp[h]
 ·rw[if_neg (by omega),if_pos (by omega)];have:((j:Int)-(xs.length:Int)+(xs.length:Int)).toNat=j:=by omega
  simp[this,h]
theorem Kh (xs:List D)(k:Nat):á xs L (U (k:Int))=xs.take k:=by
 unfold á;rw[HT.sIx_none,HT.sIx_nat,ma,List.drop_zero];rcases rh k xs.length with h|h
 ·rw[oy h]
 ·rw[nQ h,iq (cH _),iq h]
theorem xo (xs:List D)(k:Nat):á xs (U (k:Int)) L=xs.drop k:=by
 unfold á;rw[HT.sIx_none,HT.sIx_nat];rcases rh k xs.length with h|h
 ·rw[oy h,iq (by rw[gk];omega)]
 ·rw[nQ h,kz (cH _),kz h];simp
theorem WY (xs:List D)(k l:Nat):á xs (U (k:Int)) (U (l:Int))=(xs.drop k).take (l-k):=by
 unfold á;rw[HT.sIx_nat,HT.sIx_nat];rcases rh k xs.length with h|h
 ·rw[oy h];rcases rh l xs.length with g|g
  ·rw[oy g]
  ·rw[nQ g,iq (by rw[gk];omega),iq (by rw[gk];omega)]
 ·rw[nQ h,kz (cH _),kz h];simp
theorem Ny {α:Type}{g:D->Env->Option Env}{p:BF}{f:EF}{ρ0:Env}(enc:α->D)(q:α->Bool)(h:α->D):∀(xs:List α),(∀x∈xs,∃ρ1,g (enc x) ρ0=U ρ1/\p ρ1=U (q x)/\(q x=Â->f ρ1=U (h x)))->t6 g p f ρ0 (xs.map enc)=U ((xs.filter q).map h)
 |[],_=>rfl
 |x::xs,H=>by
  obtain⟨ρ1,h1,h2,h3⟩:=H x cg;have ih:=Ny enc q h xs λy hy=>H y (ck _ hy);show(g (enc x) ρ0).bind _=_;rw[h1];show(p ρ1).bind _=_;rw[h2];cases hq:q x with
  |false=>rw[dN,if_neg cI,uV (by rw[hq];exact cI)];exact ih
  |true=>rw[dN,if_pos rfl,h3 hq,uW hq];show(t6 g p f ρ0 (xs.map enc)).bind _=_;rw[ih];rfl
theorem Kx (lo:Int)(n:Nat):lI lo n=(cv n).map λ(t:Nat)=>D.int (lo+(t:Int)):=rfl
section
open PySem PySem.Spec L2
structure oA (α:Type)[DecidableEq α] where
 enc:α->D
 py:α->cX
 dep:Nat
 is:∀x,(enc x).py=U (py x)
 lay:∀x,(py x).canLay0=Â
 dp:∀x,(py x).depth<=dep
 eqv:∀x y,cX.eqv (py x) (py y)=decide (x=y)
section
variable {γ δ ε:Type}[DecidableEq α][DecidableEq β][DecidableEq γ][DecidableEq δ][DecidableEq ε]
theorem oA.eq (E:oA α)(h:E.dep<=60)(x y:α):ga neg (E.enc x) (E.enc y)=U (.bl (if neg then !decide (x=y)else decide (x=y))):=by
 have h1:uR (E.py x)=Â:=by unfold uR;rw[E.lay x,decide_eq_true (d8 (E.dp x) h)];rfl
 have h2:uR (E.py y)=Â:=by unfold uR;rw[E.lay y,decide_eq_true (d8 (E.dp y) h)];rfl
 unfold ga;rw[E.is x,E.is y];simp only[dN];rw[if_pos ⟨h1,h2⟩,E.eqv]
noncomputable def Ei:oA Int:=⟨.int,.int,0,λ_=>by simp[D.py],λ_=>rfl,λ_=>by simp[cX.depth],λx y=>by show(x==y)=_;by_cases h:x=y<;>simp[h]⟩
noncomputable def Eb:oA Bool:=⟨.bl,.bool,0,λ_=>by simp[D.py],λ_=>rfl,λ_=>by simp[cX.depth],λx y=>by cases x<;>cases y<;>rfl⟩
noncomputable def ez:Option Int->D
 |none=>.non
 |some i=>.int i
noncomputable def JL:Option Int->cX
 |none=>.none
 |some i=>.int i
def Eo:oA (Option Int):=⟨ez,JL,0,λx=>by cases x<;>simp[ez,JL,D.py],λx=>by cases x<;>rfl,λx=>by cases x<;>simp[JL,cX.depth],λx y=>by
 cases x<;>cases y
 ·rfl
 ·rfl
 ·rfl
 ·rename_i a b;show(a==b)=_;by_cases h:a=b<;>simp[h]⟩
theorem Oz (E:oA α):∀xs:List α,D.pys (xs.map E.enc)=U (xs.map E.py)
 |[]=>by simp[D.pys]
 |x::xs=>by simp[D.pys,E.is x,Oz E xs]
theorem M2 (E:oA α):∀xs:List α,cX.canLayAll0 (xs.map E.py)=Â
 |[]=>by simp[cX.canLayAll0]
 |x::xs=>by simp[cX.canLayAll0,E.lay x,M2 E xs]
theorem M3 (E:oA α):∀xs:List α,cX.depthAll (xs.map E.py)<=E.dep
 |[]=>by simp[cX.depthAll]
 |x::xs=>by have:=M3 E xs;have:=E.dp x;simp only[cL,cX.depthAll];omega
theorem M5 (E:oA α):∀xs ys:List α,cX.eqvAll (xs.map E.py) (ys.map E.py)=decide (xs=ys)
 |[],[]=>by simp[cX.eqvAll]
 |[],_::_=>by simp[cX.eqvAll]
 |_::_,[]=>by simp[cX.eqvAll]
 |x::xs,y::ys=>by simp only[cL,cX.eqvAll,E.eqv,M5 E xs ys];by_cases h:x=y<;>by_cases g:xs=ys<;>simp[h,g]
noncomputable def El (E:oA α):oA (List α):=⟨λxs=>.lst (xs.map E.enc),λxs=>.list (xs.map E.py),E.dep+1,λxs=>by simp[D.py,Oz],λxs=>by simp[cX.canLay0,M2],λxs=>by have:=M3 E xs;simp only[cX.depth];omega,λxs ys=>by simp only[cX.eqv,M5]⟩
noncomputable def E2 (A:oA α)(B:oA β):oA (α×β):=⟨λp=>.tup [A.enc p.1,B.enc p.2],λp=>.tuple [A.py p.1,B.py p.2],max A.dep B.dep+1,λp=>by simp[D.py,D.pys,A.is,B.is],λp=>by simp[cX.canLay0,cX.canLayAll0,A.lay,B.lay],
 λp=>by have:=A.dp p.1;have:=B.dp p.2;simp only[cX.depth,cX.depthAll];omega,λp q=>by simp only[cX.eqv,cX.eqvAll,A.eqv,B.eqv];obtain⟨a,b⟩:=p;obtain⟨c,d⟩:=q;by_cases h:a=c<;>by_cases g:b=d<;>simp[h,g]⟩
end
theorem ul (a b:Int):ga neg (.int a) (.int b)=U (.bl (if neg then !decide (a=b)else decide (a=b))):=Ei.eq (by decide) a b
theorem đ (a b:Bool):ga neg (.bl a) (.bl b)=U (.bl (if neg then !decide (a=b)else decide (a=b))):=Eb.eq (by decide) a b
theorem YU (a b:Option Int):ga neg (ez a) (ez b)=U (.bl (if neg then !decide (a=b)else decide (a=b))):=Eo.eq (by decide) a b
end
theorem IntsAre.of {ns:List Int}{us:List cj}(h:dU (ns.map V.int) us):IntsAre us ns:=UZ h
theorem Ki (hc:X.calm=Â):iW X (.builtin "max") (λxs H Q=>∃(a:cr) (ns:List Int),xs=[.ref a]/\ir X.K H a (ns.map V.int)/\ns≠[]/\∀ϖ,ϖ∈ns->(∀z∈ns,z<=ϖ)->Q (.int ϖ) H):=by
 intro cn s M H xs us Q I r h;obtain⟨a,ns,rfl,hq,xG,q⟩:=h;obtain⟨u,rfl,ru⟩:=r.one;cases(show u=cj.ref a from ru);obtain⟨dZ,rv,pl,hz⟩:=I.list hq;have hi:=IntsAre.of rv;obtain⟨ys,e⟩:=hi.allInts.items;have yA:ns=ys.toList.map (·.1):=by rw[←hi.numsOf,←nums_intItems,←e]
 have hsz:0<ys.size:=by have h3:0<ns.length:=pJ.mpr xG;rw[yA,cA,fw]at h3;exact h3
 have BG:s.heap.IsList a (intItems ys):=e▸pl.isList;refine max_intList (I.ok.hd hc) BG hsz λv h' tk hv hk=>?_;obtain⟨t,rfl⟩:=intItems_at hv;obtain⟨h1,h2⟩:=argBest_gt (numAt ys) (ys.size-1);refine⟨.int (numAt ys (argBest (λi j=>decide (numAt ys i > numAt ys j)) (ys.size-1))),H,I.kept (t':=tk) hk,⟨_,rfl⟩,q _ ?_ λz hz=>?_⟩
 ·rw[yA,numAt_eq];exact getD_mem (by rw[cA,fw];omega)
 ·rw[yA]at hz;obtain⟨j,hj,rfl⟩:=mem_getD hz;rw[cA,fw]at hj;rw[←numAt_eq];exact h2 j (by omega)
theorem Nz:∀{bs:List Bool} {us:List cj},dU (bs.map V.bl) us->us=bs.map cj.bool
 |[],_,.nil=>rfl
 |b::bs,_,.cons r t=>by rw[Nz t];cases(show _=cj.bool b from r);rfl
theorem wm (hc:X.calm=Â):iW X (.builtin "all") (λxs H Q=>∃(a:cr) (bs:List Bool),xs=[.ref a]/\ir X.K H a (bs.map V.bl)/\Q (.bl (bs.all id)) H):=by
 intro cn s M H xs us Q I r h;obtain⟨a,bs,rfl,hq,q⟩:=h;obtain⟨u,rfl,ru⟩:=r.one;cases(show u=cj.ref a from ru);obtain⟨dZ,rv,pl,hz⟩:=I.list hq;have hb:=Nz rv;subst hb;have hl:=pl.isList;have vD:a<s.heap.objs.size:=by obtain⟨_,e,_⟩:=hl;exact cF e
 refine PySem.call_all_walk (tH hl ?_);refine⟨s.heap.objs.size,[s.heap.objs.size,a],[s.heap.objs.size],(bs.map cj.bool).toArray.size,_,_,λi=>(bs[i]?).getD Â,rfl,Walks.list (A:=X.A.in1) (I.ok.hd hc) _ a (dg vD) (bs.map cj.bool).toArray,
  ⟨⟨_,dc _ rfl,rfl,rfl⟩,hl.push _⟩,λi v s' Q' E' hP hQ=>?_,λh' tk hk=>?_⟩
 ·have hP:(bs.map cj.bool)[i]?=U v:=by simpa using hP
  rw[dm]at hP;obtain⟨b,hb,rfl⟩:=ka.mp hP;simp only[hb,Option.getD_some]at hQ;exact i0 hQ
 ·have e:((cv (bs.map cj.bool).toArray.size).all λi=>(bs[i]?).getD Â)=bs.all id:=by rw[cU,cA];exact PyProof.Rows.LSm.range_all bs
  rw[e];refine⟨.bl (bs.all id),H,I.kept (t':=tk) λb o ID=>hk b o (λhm=>?_) (cw _ ID),rfl,q⟩;rw[cG.mp hm]at ID;exact iD _ (cF ID)
noncomputable def lB:List D->Option (List Int)
 |[]=>U []
 |.int i::S=>(lB S).bind λns=>U (i::ns)
 |_=>L
theorem M6:∀{S:List D} {ns:List Int},lB S=U ns->S=ns.map .int
 |[],_,e=>by cases e;rfl
 |d::S,ns,e=>by
  cases d with
  |int i=>obtain⟨Y,h1,h2⟩:=cK (show(lB S).bind _=_ from e);cases h2;rw[M6 h1];rfl
  |_=>cases e
theorem NA:∀ns:List Int,lB (ns.map .int)=U ns
 |[]=>rfl
 |n::ns=>by show(lB (ns.map .int)).bind _=_;rw[NA ns];rfl
theorem Pr.intV {F Ϙ:Hp}:∀{ns:List Int} {vs:List V},Pr (Al K G F Ϙ n) (ns.map .int) vs->vs=ns.map V.int
 |[],_,.nil=>rfl
 |i::ns,_,.cons h t=>by rw[Pr.intV t,h.int];rfl
noncomputable def oG:List D->Option (List Bool)
 |[]=>U []
 |.bl i::S=>(oG S).bind λns=>U (i::ns)
 |_=>L
theorem MP:∀{S:List D} {ns:List Bool},oG S=U ns->S=ns.map .bl
 |[],_,e=>by cases e;rfl
 |d::S,ns,e=>by
  cases d with
  |bl i=>obtain⟨Y,h1,h2⟩:=cK (show(oG S).bind _=_ from e);cases h2;rw[MP h1];rfl
  |_=>cases e
theorem Pr.blV {F Ϙ:Hp}:∀{ns:List Bool} {vs:List V},Pr (Al K G F Ϙ n) (ns.map .bl) vs->vs=ns.map V.bl
 |[],_,.nil=>rfl
 |i::ns,_,.cons h t=>by rw[Pr.blV t,h.bl];rfl
noncomputable def BR:List Int->Option Int
 |[]=>L
 |x::xs=>U (xs.foldl max x)
theorem NB:∀(xs:List Int) (x:Int),(xs.foldl max x=x\/xs.foldl max x∈xs)/\x<=xs.foldl max x/\∀z∈xs,z<=xs.foldl max x
 |[],x=>⟨.inl rfl,sv _,λz h=>by cases h⟩
 |y::xs,x=>by
  obtain⟨h1,h2,h3⟩:=NB xs (max x y);refine⟨?_,by show x<=xs.foldl max (max x y);omega,λz hz=>?_⟩
  ·rcases h1 with h1|h1
   ·show xs.foldl max (max x y)=x\/xs.foldl max (max x y)∈y::xs;rw[h1];rcases Int.le_total x y with h|h
    ·rw[Int.max_eq_right h];exact .inr cg
    ·rw[Int.max_eq_left h];exact .inl rfl
   ·exact .inr (ck _ h1)
  ·rcases cu.mp hz with rfl|hz
   ·show z<=xs.foldl max (max x z);omega
   ·exact h3 z hz
theorem N3 {ns:List Int}{ϖ:Int}(h:BR ns=U ϖ):ϖ∈ns/\∀z∈ns,z<=ϖ:=by
 cases ns with
 |nil=>cases h
 |cons x xs=>
  cases h;obtain⟨h1,h2,h3⟩:=NB xs x;refine⟨?_,λz hz=>?_⟩
  ·rcases h1 with h1|h1
   ·rw[h1];exact cg
   ·exact ck _ h1
  ·rcases cu.mp hz with rfl|hz
   ·exact h2
   ·exact h3 z hz
def Ss:List D->Option D
 |[.lst S]=>(lB S).bind λns=>U (.int ns.sum)
 |_=>L
def uQ:List D->Option D
 |[.lst S]=>(lB S).bind λns=>(BR ns).bind λϖ=>U (.int ϖ)
 |_=>L
def lm:List D->Option D
 |[.lst S]=>(oG S).bind λbs=>U (.bl (bs.all id))
 |_=>L
theorem WZ {vs:List V}{ns:List Int}(s:dJ F H)(l:nF K G F H [n] [.lst S] vs)(e:lB S=U ns):∃a,vs=[.ref a]/\ir K H a (ns.map V.int):=by
 cases l with
 |cons h t=>cases t;obtain⟨a,us,rfl,ha,hp⟩:=h.lst s;have:=M6 e;subst this;have:=hp.intV;subst this;exact⟨a,rfl,ha⟩
theorem K1:By K G [n] k (λxs H Q=>∃(a:cr) (ns:List Int),xs=[.ref a]/\ir K H a (ns.map V.int)/\ns≠[]/\∀ϖ,ϖ∈ns->(∀z∈ns,z<=ϖ)->Q (.int ϖ) H) uQ:=by
 intro F H vs S d Q s l e w
 match S,l,e with
 |[.lst xs],l,e=>obtain⟨ns,h1,h2⟩:=cK (show(lB xs).bind _=_ from e);obtain⟨ϖ,h3,h4⟩:=cK h2;cases h4;obtain⟨a,rfl,ha⟩:=WZ s l h1;obtain⟨m1,m2⟩:=N3 h3;refine⟨a,ns,rfl,ha,(λz=>by rw[z]at m1;cases m1),λM' h5 h6=>?_⟩;have:M'=ϖ:=Int.le_antisymm (m2 M' h5) (h6 ϖ m1);subst this;exact w _ F H (.refl s) (Al.of (.int _))
theorem um:By K G [n] k (λxs H Q=>∃(a:cr) (bs:List Bool),xs=[.ref a]/\ir K H a (bs.map V.bl)/\Q (.bl (bs.all id)) H) lm:=by
 intro F H vs S d Q s l e w
 match S,l,e with
 |[.lst xs],l,e=>
  obtain⟨bs,h1,h2⟩:=cK (show(oG xs).bind _=_ from e);cases h2;cases l with
  |cons h t=>cases t;obtain⟨a,us,rfl,ha,hp⟩:=h.lst s;have:=MP h1;subst this;have:=hp.blV;subst this;exact⟨a,bs,rfl,ha,w _ F H (.refl s) (Al.of (.bl _))⟩
noncomputable def hid (H:Hp)(x:cr):Hp:=λb=>if b=x then L else H b
theorem u9 (H:Hp)(x:cr):dJ (hid H x) H:=λb o h=>by
 unfold hid at h;by_cases e:b=x
 ·rw[if_pos e]at h;cases h
 ·rw[if_neg e]at h;exact h
theorem Lg (H:Hp)(x:cr):hid H x x=L:=if_pos rfl
theorem vk {x b:cr}(h:b≠x):hid H x b=H b:=if_neg h
def wX (K:cm)(G:Nat->cr)(cs:List Nat)(pm:List Nat)(mi:Nat->List D->Option D):Sp:=λvs H Q _=>∃(F:Hp) (c:Nat) (S:List D) (d:D) (x dx:cr) (us:List V),c∈cs/\vs=.ref x::us/\H x=U (.ins (G c) dx [])/\F x=L/\dJ F H/\nF K G F (hid H x) pm S us/\mi c S=U d /\
 ∀F' H',dJ F F'->dJ (hid H x) H'->dJ F' H'->(∀a o,hid H x a=U o->mK o->F a=L->F' a=L)->F' x=L->Ow K G F' H' 1 d (.ref x) [x]->Q .non H'
variable {mi:Nat->List D->Option D}
theorem wX.len (h:pm.length+1=ps.length):∀vs H Q E,wX K G cs pm mi vs H Q E->vs.length=ps.length:=by rintro vs H Q E ⟨F,c,S,d,x,dx,us,_,rfl,_,_,_,l,_⟩;rw[cB,l.length,h]
def BL (N:List Str)(b:SF)(c:Nat)(S:List D):Option D:=(b (U (.obj c [] [])::Ñ N.tail S)).bind λo=>match o with
 |.nx Z=>(Z[0]?).join
 |_=>L
theorem VD {w:dP}{fd:cz}{N0:Str}(Fn:ñ K x qual st fa fd)(ϙ:gp (N0::N) ps (dI st))(AH:pm.length+1=ps.length)(Dd:Y.length=N.length)(ox:pm.length<=N.length)
  (AG:∀(i n:Nat),pm[i]?=U n->Y[i]?=U (Mo.al n)\/(n=0/\Y[i]?=U (Mo.ow 0)))
  (body:∀(x:cr) (jP:cj) (A:dQ) (outer:List PySem.Env) (s:cE) (H:Hp) (E:XK),fH kk (A.deeper (envOfC qual (dI st) s.heap.objs.size fa jP))->vA (rX fJ P w K mg base (N0::N) qual (dI st) fa jP A outer s H E).nox G (.so x::Y) rk (gP st) bf) :
  dL P w K mg base fJ (kk+1) fa fd ps (wX K G cs pm (BL (N0::N) bf)):=by
 refine Fn.ok ϙ (wX.len AH) λjP A outer s H vs Q E hr h=>?_;obtain⟨F,c,S,d,x,dx,us,hc,rfl,hx,hF,sF,l,hm,q⟩:=h;obtain⟨t,pt,qt⟩:=body x jP A outer s H E hr;refine⟨t,pt,?_⟩;obtain⟨o,h1,h2⟩:=cK hm;have BE:S.length=us.length:=l.length';have RQ:us.length=pm.length:=l.length;have ow:Ow K G F H 1 (.obj c [] []) (.ref x) [x]:=.inr (Aq.obj (vs:=[]) hF hx rfl .nil);have Sl:dJ F (hid H x):=λb o hb=>by rw[vk (λe=>by rw[e,hF]at hb;cases hb)];exact sF _ _ hb
 refine qt F (hid H x) F H (U (.obj c [] [])::Ñ N S) (L2.start (N0::N) (.ref x::us)) o _ ⟨.refl _,u9 H x,sF,λ_ _ _ _ h=>h,[x],?_,by simp,λa z=>by rw[cG]at z;subst z;exact Lg H _⟩ h1 ?_
 ·have e:L2.start (N0::N) (.ref x::us)=U (.ref x)::(us.map U++cy (N.length-us.length) L):=by unfold L2.start;simp
  rw[e];unfold Ñ;rw[BE];exact SL.so (fp:=[]) ow (SL.start _ l AG (by omega))
 ·cases o with
  |nx Z=>
   intro M F' H' r;obtain⟨fp,sl,nd,hb⟩:=r.sl;cases sl with
   |no _=>cases h2
   |so G5 _=>cases h2;exact q F' H' r.f0 r.bh r.fh r.nf (G5.cells x cg).1 G5
  |rt d'=>cases h2
  |bk Z=>cases h2
  |ct Z=>cases h2
theorem N4 {f:Str}{y:V}:∀{ns:List Str} {vs:List V},ns.length=vs.length->ns.contains f=Ã->mS f y (ns.zip vs)=(ns++[f]).zip (vs++[y])
 |[],[],_,_=>rfl
 |[],_::_,h,_=>by simp at h
 |_::_,[],h,_=>by simp at h
 |n::ns,v::vs,h,hc=>by
  rw[p5,wO]at hc;have hn:¬n=f:=λe=>by rw[e]at hc;simp at hc
  have ih:=N4 (f:=f) (y:=y) (ns:=ns) (vs:=vs) (by simpa using h) hc.2;show mS f y ((n,v)::ns.zip vs)=(n,v)::(ns++[f]).zip (vs++[y]);rw[←ih];show(if n=f then _ else _)=_;rw[if_neg hn]
theorem Ow.obj_inv {c:Nat}{ns:List Str}{v:V}(h:Ow K G F H (k+1) (.obj c ns S) v fp):∃a dx vs fr,v=.ref a/\fp=a::fr/\F a=L/\H a=U (.ins (G c) dx (ns.zip vs))/\ns.length=vs.length/\iF (Ow K G F H k) S vs fr:=by
 rcases h with⟨h,_⟩|h
 ·cases h
 ·cases h with
  |obj h1 h2 h3 h4=>exact⟨_,_,_,_,rfl,rfl,h1,h2,h3,h4⟩
variable {ϛ:cr}{s:Str}
section
variable {x0:cr}
def m9 (cs:List Nat)(x:Str)(f:EF):SF:=λZ=>(f Z).bind λd=>(C 0 Z).bind λo=>match o with
 |.obj c ns S=>if cs.contains c=Â/\ns.contains x=Ã/\ns.length<900 then U (.nx (Z.set 0 (U (.obj c (ns++[x]) (S++[d])))))else L
 |_=>L
theorem RS.self {F' H':Hp}(rs:RS K G F0 B (.so x0::Y) F H Z M)(hd:Z[0]?=U (U d)):M[0]?=U (U (.ref x0))/\Ow K G F H 1 d (.ref x0) [x0]/\B x0=L /\
  ∀(F' H':Hp) (d':D),dJ F F'->dJ B H'->dJ F' H'->(∀a o,B a=U o->mK o->F0 a=L->F' a=L)->(∀a o,H a=U o->a≠x0->H' a=U o)->(∀a o,H a=U o->a≠x0->mK o->F a=L->F' a=L)->Ow K G F' H' 1 d' (.ref x0) [x0]->RS K G F0 B (.so x0::Y) F' H' (Z.set 0 (U d')) M:=by
 obtain⟨fp,sl,nd,hb⟩:=rs.sl;cases sl with
 |no _=>simp at hd
 |so ow t=>simp at hd;subst hd;refine⟨rfl,ow,hb _ cg,λF' H' d' s1 s2 s3 s4 k1 k2 o'=>⟨rs.f0.trans s1,s2,s3,s4,_,.so o' (t.frame s1 λa z=>?_),nd,hb⟩⟩;obtain⟨hn,o,ho,nt⟩:=t.cells a z;have ne:a≠x0:=λe=>(dG.mp nd).1 (by rw[←e];exact z);exact⟨(k1 a o ho ne).trans ho.symm,k2 a o ho ne nt hn⟩
theorem uf (hc:∀c∈cs,oU X.K (G c)/\fZ X.K (G c) x)(he:XE X G (.so x0::Y) 0 e f)(hN:X.N[0]?=U s:=by rfl)(hv:sm X.env.scope s:=by walk_at "v1")(hd:kC s:=by decide)
  (kW:tI s:=by decide) (hs:gQ e (U (.Attribute (.Name s p1) x pos')) pos.line X.env=pure Ã:=by rfl):XS X G (.so x0::Y) rk (.Assign [.Attribute (.Name s p1) x pos'] e pos) (m9 cs x f):=by
 obtain⟨t,pt,qt⟩:=he;refine⟨_,Pv (xm hN hv hd kW) pt hs,λF0 B F H Z M o E rs e z=>?_⟩;obtain⟨d,h1,h2⟩:=cK e;obtain⟨ob,h3,h4⟩:=cK h2;refine qt F0 B F H Z M d _ rs h1 λy F1 H1 x1 l=>?_;have pG:=rs.ext x1;obtain⟨hσ,ow,hB,put⟩:=pG.self (F':=F) (H':=H) (zl h3);refine⟨_,hσ,?_⟩;cases ob with
 |obj c ns S=>
  dsimp only at h4;by_cases hz:cs.contains c=Â/\ns.contains x=Ã/\ns.length<900
  ·rw[if_pos hz]at h4;cases h4;obtain⟨a,dx,vs,fr,e1,e2,hF,hH,hl,ol⟩:=ow.obj_inv;cases e1;cases e2;have hh:=hc c (by simpa using hz.1);refine⟨x0,_,dx,_,rfl,hH,hh.1,hh.2,by rw[jT,←hl,lZ];omega,?_⟩;rw[N4 hl hz.2.1];refine z M F1 _ (put F1 _ _ (.refl _) (λb o h=>?_) (λb o h=>?_) pG.nf (λb o h ne=>by rw[zm ne];exact h) (λb o h ne _ hn=>hn) (.inr (Aq.obj (vs:=vs++[y]) hF zo (by simp[hl]) ?_)))
   ·rw[zm (λe=>by rw[e,hB]at h;cases h)];exact pG.bh _ _ h
   ·rw[zm (λe=>by rw[e,hF]at h;cases h)];exact pG.fh _ _ h
   ·have o1:iF (Ow X.K G F1 (upd H1 x0 (.ins (G c) dx ((ns++[x]).zip (vs++[y])))) 0) S vs []:=ol.mono λ_ _ _ _ q=>⟨q.1,q.2⟩;have:=o1.append (iF.cons (f:=[]) (g:=[]) (R:=Ow X.K G F1 (upd H1 x0 (.ins (G c) dx ((ns++[x]).zip (vs++[y])))) 0) ⟨l,rfl⟩ .nil);exact this
  ·rw[if_neg hz]at h4;cases h4
 |_=>cases h4
variable {fd:cz}
theorem YV (ϖ:Mk X.K (G c0) fa)(xZ:c0∈cs)(Fn:dL X.prog X.w X.K X.mg X.base fJ kk fa fd ps (wX X.K G cs (ns++nd) mi))(hr:fH (kk+1) X.A)(hg:Gl X x)(hm:X.mg x=U (.ref (G c0)))
  (hb:gz X.K fd ps rD) (hd:dU mQ rD) (BD:∀F Ϙ,nF X.K G F Ϙ nd sD mQ) (ha:XA X G Y (e::es) ns fs)
  (nH:kC x:=by decide) (he:SE X e es:=by rfl) (kL:pL X pos es:=by rfl) :
  XO X G Y 1 (.Call (.Name x pp) (e::es) [] pos) (λZ=>(fs Z).bind λS=>mi c0 (S++sD)):=by
 obtain⟨t,pt,_,qt⟩:=ha;refine⟨_,Yi ϖ Fn hr hg hm hb hd oK pt nH he kL,λF0 B F H Z M r Q rs e w=>?_⟩;obtain⟨S,h1,h2⟩:=cK e;refine qt F0 B F H Z M S _ rs h1 λvs F1 H1 x1 l y dy hy IJ xG=>?_;have sH:dJ H1 (hid (upd (upd H1 dy (.own y)) y (.ins (G c0) dy [])) y):=λb o h=>by have n1:b≠y:=zu h hy;rw[vk n1,zm n1,zm (zu h IJ)];exact h
 have Sm:dJ H1 (upd (upd H1 dy (.own y)) y (.ins (G c0) dy [])):=sH.trans (u9 _ _);refine⟨F1,c0,S++sD,r,y,dy,vs++mQ,xZ,rfl,zo,x1.fh.free hy,x1.fh.trans Sm,nF.mono (.refl _) sH (nF.append (BD F1 H1) l),h2,λF' H' s1 s2 s3 s4 hn ow=>⟨rfl,?_⟩⟩;refine w _ F' H' [y] ⟨x1.ff.trans s1,(x1.hh.trans sH).trans s2,s3,λb o h t n=>s4 b o (sH _ _ (x1.hh _ _ h)) t (x1.nf b o h t n)⟩ ow (by simp) λb z=>?_;rw[cG]at z;subst z;exact x1.hh.free hy
theorem W3 {sp:Sp}{S:List cj}{E:XK}{m:Str}{p:oj}{t:TA}{mc:cj}(Fn:dL X.prog X.w X.K X.mg X.base fJ kk fa fd ps sp)(hr:fH kk X.A)(hg:Gl X x)(hm:X.mg x=U (.ref ϛ))
  (h1:jX X.K (.ref ϛ) "__getattribute__"=U (U (.builtin "type.__getattribute__"))) (h2:rq X.K ϛ mc=Â) (h3:rm X.K (.ref ϛ) mc m=U (.val (.ref fa))) (hk:fk X.K (.ref fa)=Â) (hb:gz X.K fd ps S) (hd:dU mQ S) (hx:mL fJ X E) (ha:PA X (e::es) t)
  (nH:kC x:=by decide) (m6:SE X e es:=by rfl) (kL:pL X pos es:=by rfl)
  (ht:eF (.Call (.Attribute (.Name x p) m fQ) (e::es) [] pos) X.env=(do
   let ov ← eF (.Name x p) X.env
   kA fQ.atName
   let(f,first) ← f9 [ov] (kI ov m pl)
   md pos f first (jG pos (dD (e::es) X.env)) (ku pos (gA [] X.env))):=by rfl) :
  PE X (.Call (.Attribute (.Name x p) m fQ) (e::es) [] pos) (CL sp mQ E t):=by
 intro cn s M H Q I h;refine kB (pl:=pl) (vc I hg hm ?_ nH) ht;refine PySem.W.method_cls I.kIn h1 (PySem.W.cls_value I.kIn h2 h3 rfl ?_);have I1:Ë X cn M H { s with toks:=s.toks+1 }:=I.tok _;refine jH (first:=[]) (h₀:=X.base) I.ok.mod.kin hk (fX (ha pos cn _ M H _ I1 h) λus s2 ⟨vs,H2,I2,r,q2⟩=>⟨I2.kIn,?_⟩) m6 kL;exact Gi (us:=us) (vs:=vs) Fn hr hb hd hx I2 r q2
theorem nF.flat {vs:List V}(h:nF K G F Ϙ ns S vs)(e:ns.all (· == 0)=Â):nF K G F G' ns S vs:=by
 induction h with
 |nil=>exact .nil
 |cons h t ih=>rw[fq,cY]at e;cases eq_of_beq e.1;exact .cons h (ih e.2)
def uS (cs:List Nat)(fs:Env->Option (List D))(mi:Nat->List D->Option D):SF:=λZ=>(C 0 Z).bind λo=>(fs Z).bind λS=>match o with
 |.obj c [] []=>if cs.contains c=Â then(mi c S).bind λd=>U (.nx (Z.set 0 (U d)))else L
 |_=>L
theorem K2 {m:Str}{p:oj}{mc:cj}(Fn:dL X.prog X.w X.K X.mg X.base fJ kk fa fd ps (wX X.K G cs ns mi))(hr:fH kk X.A)(hm:X.mg x=U (.ref ϛ))
  (h1:jX X.K (.ref ϛ) "__getattribute__"=U (U (.builtin "type.__getattribute__"))) (h2:rq X.K ϛ mc=Â) (h3:rm X.K (.ref ϛ) mc m=U (.val (.ref fa))) (hk:fk X.K (.ref fa)=Â) (hb:gz X.K fd ps []) (hz:ns.all (· == 0)=Â) (ha:XA X G (.so x0::Y) es ns fs)
  (hg:Gl X x:=by rfl) (hN:X.N[0]?=U s:=by rfl) (hv:sm X.env.scope s:=by walk_at "v1") (hd:kC s:=by decide)
  (kW:tI s:=by decide) (nH:kC x:=by decide) (m6:dD (.Name s p1::es) X.env=(Ã,eF (.Name s p1) X.env)::dD es X.env:=by rfl) (kL:pL X fN es:=by rfl)
  (ht:eF (.Call (.Attribute (.Name x p) m fQ) (.Name s p1::es) [] fN) X.env=(do
   let ov ← eF (.Name x p) X.env
   kA fQ.atName
   let(f,first) ← f9 [ov] (kI ov m pl)
   md fN f first (jG fN (dD (.Name s p1::es) X.env)) (ku fN (gA [] X.env))):=by rfl)
  (BJ:gQ (.Call (.Attribute (.Name x p) m fQ) (.Name s p1::es) [] fN) L pos.line X.env=pure Ã:=by rfl) :
  XS X G (.so x0::Y) rk (.Expr (.Call (.Attribute (.Name x p) m fQ) (.Name s p1::es) [] fN) pos) (uS cs fs mi):=by
 obtain⟨t,pt,_,qt⟩:=ha;refine⟨_,KW (W3 (E:=E0) Fn hr hg hm h1 h2 h3 hk hb .nil oK (yj (xm hN hv hd kW) pt m6) nH m6 kL ht) BJ,λF0 B F H Z M o E rs e z=>?_⟩;obtain⟨ob,S,g1,g2,g3⟩:=eL e;obtain⟨hσ,ow,hB,put⟩:=rs.self (F':=F) (H':=H) (zl g1);refine⟨_,hσ,qt F0 B F H Z M S _ rs g2 λvs F1 H1 x1 l=>?_⟩;have pG:=rs.ext x1;obtain⟨hσ,ow,hB,put⟩:=pG.self (F':=F) (H':=H) (zl g1)
 match ob,g3,ow with
 |.obj c [] [],g3,ow=>
  dsimp only at g3;by_cases hc:cs.contains c=Â
  ·rw[if_pos hc]at g3;obtain⟨d,g4,g5⟩:=cK g3;cases g5;obtain⟨a,dx,us,fr,e1,e2,hF,hH,hl,ol⟩:=ow.obj_inv;cases e1;cases e2;refine⟨F1,c,S,d,x0,dx,vs++[],by simpa using hc,rfl,hH,hF,x1.fh,?_,g4,λF' H' s1 s2 s3 s4 hn o'=>?_⟩
   ·rw[dA];exact l.flat hz
   ·have sB:dJ B (hid H1 x0):=λb o h=>by rw[vk (λe=>by rw[e,hB]at h;cases h)];exact pG.bh _ _ h
    exact z M F' H' (put F' H' d s1 (sB.trans s2) s3 (λb o h t n=>s4 b o (sB _ _ h) t (pG.nf b o h t n)) (λb o h ne=>s2 _ _ (by rw[vk ne];exact h)) (λb o h ne t IY=>s4 b o (by rw[vk ne];exact h) t IY) o')
  ·rw[if_neg hc]at g3;cases g3
end
structure iP (K:cm)(mg:Str->Option cj)(x:Str)(st:dS)(ps:List Str)(f:cr)(fd:cz):Prop where
 fn:ñ K x x st f fd
 mgx:mg x=U (.ref f)
 bd:gz K fd ps []
structure Dm (K:cm)(ϛ:cr)(m qual:Str)(st:dS)(ps:List Str)(f:cr)(fd:cz):Prop where
 fn:ñ K m qual st f fd
 me:wY K ϛ m f
 bd:gz K fd ps []
structure Dc (K:cm)(mg:Str->Option cj)(x:Str)(ϛ:cr):Prop where
 cl:oU K ϛ
 mgx:mg x=U (.ref ϛ)
 mks:rn K ϛ=Â
 kp:fk K (.ref ϛ)=Â
structure Dq (K:cm)(ϛ:cr)(m:Str)(f:cr):Prop where
 sp:jX K (.ref ϛ) "__getattribute__"=U (U (.builtin "type.__getattribute__"))
 rd:rq K ϛ (.type "type")=Â
 fc:rm K (.ref ϛ) (.type "type") m=U (.val (.ref f))
variable {an od:Option cr}{jP dV doc oc:cj}{BV:Array (Option cj)}
theorem OA {f:cr}{kV pm G:cj}(l:K.lookup f=U ⟨oc,od,.func (nr x qual (lE st) (gP st) (dI st) dV kV doc pm an jP G),BV⟩)
  (c:sk K jP qual=Â) (k:fk K (.ref f)=Â):ñ K x qual st f (nr x qual (lE st) (gP st) (dI st) dV kV doc pm an jP G):=⟨⟨oc,od,dV,kV,doc,pm,an,jP,G,BV,rfl,l,c⟩,k⟩
variable {T:cr}{items:Array cj}
theorem YW {fd:cz}{S:List cj}{o:iZ}(hd:fd.defaults=.ref T)(ho:K.lookup T=U o)(hs:o.data=.seq items n)
  (h:∀us:List cj,(us++S).length=ps.length->∃k,bindArgs fd ⟨us,[]⟩=seqItems? fd.defaults >>= k/\k (U items)=pure (ps.zip (us++S))):gz K fd ps S:=λs us X hl=>by
 obtain⟨k,h1,h2⟩:=h us hl;exact PySem.W.binds_K X hd ho hs h1 h2
theorem OB (m:Nat){fd:cz}{S:List cj}{o:iZ}(ho:K.lookup T=U o)(h:∀us:List cj,us.length=m->∃k,bindArgs fd ⟨us,[]⟩=seqItems? fd.defaults >>= k/\k (U items)=pure (ps.zip (us++S)))(hd:fd.defaults=.ref T:=by rfl)(hs:o.data=.seq items n:=by rfl)(hm:m+S.length=ps.length:=by rfl):gz K fd ps S :=
 YW hd ho hs λus hl=>h us (by rw[cV]at hl;omega)
noncomputable def Ii (x:Str):It:=⟨λi _=>∃c,x.cps[i]?=U c,λi H v H'=>H'=H/\∃c,x.cps[i]?=U c/\v=.str ⟨#[c]⟩,λi _=>x.cps[i]?=L⟩
theorem W4 {w:dP}(x:Str)(t:Tok)(it:cr):ù P w K tg (Ii x) [it] it (λi h=>h.IsStrIter it (eW x) x t i) where
 mem:=by simp
 obj:=λi h st b hb=>by
  have e:b=it:=by simpa using hb
  subst e;obtain⟨o,e,c,d⟩:=st;exact⟨o,e,λv z=>by rw[d]at z;cases z⟩
 keep:=λi h h' st k=>by obtain⟨o,e,c,d⟩:=st;exact⟨o,k it (by simp) o e,c,d⟩
 item:=by
  intro X hP hw hK hc i cn s M H E I hf st hg;subst hP hw hK;obtain⟨c,hx⟩:=hg;obtain⟨f0,f1,f2,f3,f4,f5⟩:=hf it (by simp);have fin:∀h':cM,h'.IsStrIter it (eW x) x t (i+1)->ip it s.heap h'->cQ (c8 X.prog X.w) X.A (mr tg (.ref it) (.str ⟨#[c]⟩ s.toks)) (λ_ s2=>∃v H',Ë X cn M H' s2/\Í v (.str ⟨#[c]⟩ s.toks)/\(Ii x).yld i H v H'/\s2.heap.IsStrIter it (eW x) x t (i+1)/\∀b∈[it],H' b=L) E { s with heap:=h',toks:=s.toks+1 }:=λh' Ah sb=>by have I1:Ë X cn M H { s with heap:=h',toks:=s.toks+1 }:=I.turned (t':=s.toks+1) (λb o hb e=>(sb.2 b hb).trans e) f0 f1 f3 f4 f5;obtain⟨o,e,cc,d⟩:=id Ah;refine Lr (s:={ s with heap:=h',toks:=s.toks+1 }) e cc d ?_ ⟨.str ⟨#[c]⟩,H,I1,⟨_,rfl⟩,⟨rfl,c,hx,rfl⟩,Ah,λb hb=>(hf b hb).1⟩;unfold eW;split<;>decide
  cases ha:x.cps.all (·<128)with
  |true=>
   have e:eW x = "str_ascii_iterator":=by unfold eW;rw[ha];rfl
   rw[e]at st fin;exact wpAny_pyNext_ascii_item st hx λh' Ah sb=>⟨_,rfl,by rw[e];exact fin h' Ah sb⟩
  |false=>
   have e:eW x = "str_iterator":=by unfold eW;rw[ha];rfl
   rw[e]at st fin;exact wpAny_pyNext_wide_item st hx λh' Ah sb=>⟨_,rfl,by rw[e];exact fin h' Ah sb⟩
 done:=by
  intro X hP hw hK hc i cn s M H E I hf st hg;subst hP hw hK;obtain⟨f0,f1,f2,f3,f4,f5⟩:=hf it (by simp);cases ha:x.cps.all (·<128)with
  |true=>
   have e:eW x = "str_ascii_iterator":=by unfold eW;rw[ha];rfl
   rw[e]at st;exact wpAny_pyNext_ascii_end (I.ok.hd hc) st hg λh' eb=>⟨rfl,I.turned (t':=s.toks) (λb o hb e=>eb b o hb e) f0 f1 f3 f4 f5⟩
  |false=>
   have e:eW x = "str_iterator":=by unfold eW;rw[ha];rfl
   rw[e]at st;exact wpAny_pyNext_wide_end (I.ok.hd hc) st hg λh' eb=>⟨rfl,I.turned (t':=s.toks) (λb o hb e=>eb b o hb e) f0 f1 f3 f4 f5⟩
 self:=λA i s Q E st h=>by
  cases ha:x.cps.all (·<128)with
  |true=>
   have e:eW x = "str_ascii_iterator":=by unfold eW;rw[ha];rfl
   rw[e]at st;exact wpAny_pyIter_striter_ascii st h
  |false=>
   have e:eW x = "str_iterator":=by unfold eW;rw[ha];rfl
   rw[e]at st;exact wpAny_pyIter_striter_wide st h
def Jm (tl:TE):TI:=λM H R=>tl M H λx H1=>∃z,x=.str z/\R (Ii z) H1
theorem Z2 {l:Expr}{tl:TE}(hl:PE X l tl):PI X tg l (Jm tl):=by
 intro cn s M H R I h;refine fX (hl cn s M H _ I h) λv s1 gK=>?_;obtain⟨x,H1,I1,r,z,e,q⟩:=gK;subst e;obtain⟨t,rfl⟩:=r;refine wpAny_pyIter_strU ?_;refine⟨s1.heap.objs.size,[s1.heap.objs.size],_,_,H1,rfl,I1.kept (t':=s1.toks) λb o e=>cw _ e,(W4 z t _).ok,⟨_,dc _ rfl,rfl,rfl⟩,λb hb=>?_,q⟩;have e:b=s1.heap.objs.size:=by simpa using hb
 subst e;exact I1.fpOk (cH _) (I1.hok.fresh (cH _))
noncomputable def sX (x:Str):List D:=x.cps.toList.map λc=>.str ⟨#[c]⟩
def GF:D->Option (List D)
 |.str x=>U (sX x)
 |_=>L
theorem Lh (he:XE X G Y m e f):XI X G Y n tg e (λZ=>(f Z).bind GF):=by
 obtain⟨t,pt,qt⟩:=he;refine⟨_,Z2 pt,λF0 B F H Z M S R rs e w=>?_⟩;obtain⟨d,h1,h2⟩:=cK e;refine qt F0 B F H Z M _ _ rs h1 λv F' H' x l=>?_;cases d with
 |str z=>
  cases h2;refine⟨z,l.str,w _ F' H' x λi F2 H2 s1 s2 s3=>⟨λd hd=>?_,λhl=>?_⟩⟩
  ·unfold sX at hd;rw[dm]at hd;obtain⟨c,hc,rfl⟩:=ka.mp hd;have Cy:z.cps[i]?=U c:=by simpa using hc
   refine⟨⟨c,Cy⟩,λy H3 hy=>?_⟩;obtain⟨rfl,c2,h3,rfl⟩:=hy;rw[Cy]at h3;cases h3;exact⟨F2,.refl s3,Al.of (.str _)⟩
  ·unfold sX at hl;rw[cA,fw]at hl;exact Array.getElem?_eq_none hl
 |_=>cases h2
theorem W5 [DecidableEq κ](k:κ)(v:V):∀{ks:List κ} {vs:List V},ks.length=vs.length->ê (ks.zip vs) k v=(if ks.contains k=Â then ks.zip ((ks.zip vs).map λp=>if p.1=k then v else p.2)else(ks++[k]).zip (vs++[v])):=by
 intro ks vs hl;unfold ê;have e:((ks.zip vs).any λkv=>decide (kv.1=k))=ks.contains k:=by
  rw[A0,ny,wB];constructor
  ·rintro⟨p,hp,he⟩;have:=decide_eq_true_iff.mp he;rw[←this];exact(oh hp).1
  ·intro hk;obtain⟨i,hi,rfl⟩:=List.getElem_of_mem hk;exact⟨(ks[i],vs[i]'(by omega)),iN.mpr ⟨i,by simp;omega,by simp⟩,by simp⟩
 rw[e];by_cases h:ks.contains k=Â
 ·rw[if_pos h,if_pos h];clear e h;induction ks generalizing vs with
  |nil=>simp
  |cons y ks ih=>
   cases vs with
   |nil=>simp at hl
   |cons u vs=>simp only[gw,cL,ih (by simpa using hl)];by_cases hy:y=k<;>simp[hy]
 ·rw[if_neg h,if_neg h,List.zip_append hl];rfl
def yG (i:Nat)(fj f:EF):SF:=λZ=>(f Z).bind λd=>(C i Z).bind λo=>(fj Z).bind λj=>match o with
 |.dK ks S=>(BP j).bind λk=>if ks.length<16777216 then U (.nx (Z.set i (U (.dK (nS ks S k d).1 (nS ks S k d).2))))else L
 |.dT ks S=>(match j with
  |.tup js=>(vT js).bind λk=>if ks.length<16777216 then U (.nx (Z.set i (U (.dT (nS ks S k d).1 (nS ks S k d).2))))else L
  |_=>L)
 |_=>L
theorem N5 [DecidableEq κ]{v:V}(r:R d v)(k:κ){ks:List κ}{vs:List V}(hl:ks.length=vs.length)(hp:Pr R S vs) :
  ∃us,ê (ks.zip vs) k v=(nS ks S k d).1.zip us/\(nS ks S k d).1.length=us.length/\Pr R (nS ks S k d).2 us:=by
 rw[W5 k v hl];unfold nS;by_cases h:ks.contains k=Â
 ·rw[if_pos h,if_pos h];refine⟨_,rfl,by simp[hl],?_⟩;clear h;induction ks generalizing S vs with
  |nil=>simp;exact .nil
  |cons y ks ih=>
   cases hp with
   |nil=>simp at hl
   |cons h t=>
    simp only[gw,cL];refine .cons ?_ (ih (by simpa using hl) t);by_cases hy:y=k
    ·rw[if_pos hy,if_pos hy];exact r
    ·rw[if_neg hy,if_neg hy];exact h
 ·rw[if_neg h,if_neg h];exact⟨_,rfl,by simp[hl],hp.append (.cons r .nil)⟩
theorem YX (i:Nat){j:Expr}(hm:Y[i]?=U (.ow 1))(hu:X.A.units+1<oR)(hj:XE X G Y 0 j fj)(he:XE X G Y 0 e f)(hN:X.N[i]?=U x:=by rfl)(hv:sm X.env.scope x:=by walk_at "v1")(hd:kC x:=by decide)
  (kW:tI x:=by decide) (hs:gQ e (U (.Subscript (.Name x p1) j mq)) pos.line X.env=pure Ã:=by rfl) :
  XS X G Y rk (.Assign [.Subscript (.Name x p1) j mq] e pos) (yG i fj f):=by
 obtain⟨t,pt,qt⟩:=he;obtain⟨tj,Do,Dp⟩:=hj;refine⟨_,Yo hu (xm hN hv hd kW) Do pt hs,λF0 B F H Z M o E rs e z=>?_⟩;obtain⟨d,g1,g2⟩:=cK e;obtain⟨d1,Aw,g3,g4,g5⟩:=eL g2;refine qt F0 B F H Z M d _ rs g1 λv0 F1 H1 x1 l0=>?_;have pG:=rs.ext x1;obtain⟨f1,fr,n1,b1,dj,i4,cf,put⟩:=pG.put (F':=F) (H':=H) hm;obtain⟨v,hσ,ow⟩:=i4 d1 (zl g3);refine⟨v,hσ,Dp F0 B F1 H1 Z M Aw _ pG g4 λvj F2 H2 x2 lj=>?_⟩;have Mh:Dt X.K G F2 d v0:=Dt.mono x2.ff l0;cases d1 with
 |dK ks S=>
  dsimp only at g5;obtain⟨key,g6,g7⟩:=cK g5;by_cases hz:ks.length<16777216
  ·rw[if_pos hz]at g7;cases g7;obtain⟨ad,vs,Cu,rfl,rfl,hF,hH,hl,ol⟩:=ow.dK_inv;have hA:=x2.hh _ _ hH;have fA:F2 ad=L:=x2.nf ad _ hH nofun hF;have e0:=ol.nil0;subst e0;have hp:Pr (Dt X.K G F2) S vs:=ol.pr λ_ _ _ _ q=>q.1.mono x2.ff;obtain⟨us,Jh,Ji,Jj⟩:=N5 Mh key hl hp;have hk:=Lk g6 lj;subst hk;refine⟨ad,_,rfl,vM.k hA (by rw[jT,←hl,lZ,fu];exact hz),?_⟩;rw[Jh];refine z M F2 _ (pG.change hm x2 hσ b1 dj cf put cg fA (.inr (.dK fA zo Ji (iF.ofPr (Jj.mono λ_ _ q=>⟨q,rfl⟩)))) (fn:=[ad]) (by simp) ?_);intro a ha;rw[cG]at ha;subst ha;exact .inl cg
  ·rw[if_neg hz]at g7;cases g7
 |dT ks S=>
  cases Aw with
  |tup js=>
   dsimp only at g5;obtain⟨key,g6,g7⟩:=cK g5;by_cases hz:ks.length<16777216
   ·rw[if_pos hz]at g7;cases g7;obtain⟨ad,vs,Cu,rfl,rfl,hF,hH,hl,ol⟩:=ow.dT_inv;have hA:=x2.hh _ _ hH;have fA:F2 ad=L:=x2.nf ad _ hH nofun hF;have e0:=ol.nil0;subst e0;have hp:Pr (Dt X.K G F2) S vs:=ol.pr λ_ _ _ _ q=>q.1.mono x2.ff;obtain⟨us,Jh,Ji,Jj⟩:=N5 Mh key hl hp;obtain⟨bd,ws,rfl,hb,Je⟩:=lj.tup x2.fh;have hk:=OH g6 Je;subst hk;refine⟨ad,_,rfl,vM.t hA hb (by rw[jT,←hl,lZ,fu];exact hz),?_⟩;rw[Jh];refine z M F2 _ (pG.change hm x2 hσ b1 dj cf put cg fA (.inr (.dT fA zo Ji (iF.ofPr (Jj.mono λ_ _ q=>⟨q,rfl⟩)))) (fn:=[ad]) (by simp) ?_);intro a ha;rw[cG]at ha;subst ha;exact .inl cg
   ·rw[if_neg hz]at g7;cases g7
  |_=>cases g5
 |_=>cases g5
def FL (K:cm):V->V->Hp->VK->Prop:=λo i H Q=>∃p xs k v,o=.ref p/\i=.int k/\ir K H p xs/\atI xs k=U v/\Q v H
theorem VE:EI X (FL X.K):=by
 intro cn s M H o i ov iv Q I ro ri h;obtain⟨p,xs,k,z,rfl,rfl,hq,he,q⟩:=h;cases ro;obtain⟨t,rfl⟩:=ri;obtain⟨dZ,r,pl,hz⟩:=I.list hq;obtain⟨j,h1,h2,h3,h4,h5⟩:=Ht he;obtain⟨w,ew,zN⟩:=r.get h2;have hl:=r.length;have hn:=pR;have fin:EP X cn M Q w s:=⟨z,H,I,zN,q⟩;by_cases h0:0<=k
 ·have hj:k.toNat=j:=by rw[uI h0 h5]at h1;exact Option.some.inj h1
  exact wpAny_getItem_list pl.isList h0 (by omega) (by rw[hj];simpa using ew) fin
 ·have hj:(k+(dZ.toArray.size:Int)).toNat=j:=by rw[tF (by omega) h4]at h1;rw[cU,←hl];exact Option.some.inj h1
  exact wpAny_getItem_list_neg pl.isList (by omega) (by rw[cU]<;>omega) (by omega) (by rw[hj];simpa using ew) fin
def vU (i:Nat)(fj:EF)(gi:Int->Int->Int)(f:EF):SF:=λZ=>(C i Z).bind λo=>(fj Z).bind λj=>(f Z).bind λy=>match o,j with
 |.lst S,.int z=>(atI S z).bind λx=>(match x,y with
  |.int a,.int b=>(mI S z (.int (gi a b))).bind λtJ=>U (.nx (Z.set i (U (.lst tJ))))
  |_,_=>L)
 |_,_=>L
theorem OC (i:Nat){j:Expr}{gi:Int->Int->Int}(ho:DS X op (G1 gi))(hm:Y[i]?=U (.ow 1))(hj:XE X G Y n j fj)(he:XE X G Y m e f)(hN:X.N[i]?=U x:=by rfl)(hv:sm X.env.scope x:=by walk_at "v1")(hd:kC x:=by decide)
  (kW:tI x:=by decide) (ha:∀ov iv new,augStore j ov iv new=(do f9 [new,ov,iv] (tG ov iv new);Ab [new,ov,iv] [];pure .next):=by intros;rfl) :
  XS X G Y rk (.AugAssign (.Subscript (.Name x p1) j mq) op e pos) (vU i fj gi f):=by
 obtain⟨t,pt,qt⟩:=he;obtain⟨tj,Do,Dp⟩:=hj;refine⟨_,Yb (xm hN hv hd kW) Do VE pt ho Kr ha,λF0 B F H Z M o E rs e z=>?_⟩;obtain⟨d1,Aw,g3,g4,g5⟩:=eL e;obtain⟨d2,g6,g7⟩:=cK g5;obtain⟨f1,fr,n1,b1,dj,i4,cf,put⟩:=rs.put (F':=F) (H':=H) hm;obtain⟨v,hσ,ow⟩:=i4 d1 (zl g3);refine⟨v,hσ,Dp F0 B F H Z M Aw _ rs g4 λvj F2 H2 x2 lj=>?_⟩;cases d1<;>try (cases g7;done)
 rename_i S;cases Aw<;>try (cases g7;done)
 rename_i zi
 ·skip
  dsimp only at g7;obtain⟨da,g8,g9⟩:=cK g7;obtain⟨ad,vs,Cu,rfl,rfl,hF,hH,ol⟩:=ow.lst_inv;have hA:H2 ad=U (.lst vs):=x2.hh _ _ hH;have hp:Pr (Al X.K G F2 H2 0) S vs:=ol.pr λ_ _ _ _ q=>q.1.mono x2.ff;obtain⟨va,Rc,Re⟩:=hp.atI g8;refine⟨ad,vs,zi,va,rfl,lj.int,ir.of hA,Rc,qt F0 B F2 H2 Z M d2 _ (rs.ext x2) g6 λvy F3 H3 x3 ly=>?_⟩;have rK:=x2.trans x3;cases da<;>try (cases g9;done)
  rename_i ia;cases d2<;>try (cases g9;done)
  rename_i ib
  ·skip
   dsimp only at g9;obtain⟨tJ,QW,QX⟩:=cK g9;cases QX;obtain⟨jn,QY,QZ⟩:=cK QW;cases QZ;have Q4:H3 ad=U (.lst vs):=x3.hh _ _ hA;have fA:F3 ad=L:=rK.nf ad _ hH nofun hF;have e0:=ol.nil0;subst e0;refine⟨ia,ib,Re.int,ly.int,ad,vs,zi,jn,rfl,lj.int,Q4,by rw[←ol.length];exact QY,?_⟩;refine z M F3 _ (rs.change hm rK hσ b1 dj cf put cg fA (.inr (.lst fA zo (iF.set0 ⟨.int _,rfl⟩ (λ_ _ _ q=>q.2) jn (ol.mono λ_ _ _ _ q=>⟨q.1.mono rK.ff,q.2⟩)))) (fn:=[ad]) (by simp) ?_);intro a ha;rw[cG]at ha;subst ha;exact .inl cg
structure Ic (K:cm)(ϛ:cr):Prop where
 cl:oU K ϛ
 ha:e8 K (.ref ϛ) "__class__"=U (U (.builtin "object.__class__"))
 hn:jX K (.builtin "object.__class__") "__get__"=U (U (.builtin "getset_descriptor.__get__"))
 ht:yS K (.builtin "object.__class__")=U Â
 hm:Am K ϛ (.type "object")=U Â
noncomputable def xH (all sub:List Nat):D->Option D
 |.obj c _ _=>if all.contains c=Â then U (.bl (sub.contains c))else L
 |_=>L
theorem Hx {all sub:List Nat}(hI:∀c∈all,Ic X.K (G c)/\gj X.K (.ref (G c)) (.ref ϛ)=U (sub.contains c))(hm:X.mg "isinstance"=L)(pA:X.mg x=U (.ref ϛ))(he:XE X G Y n e f)(hg:Gl X "isinstance":=by rfl)(Bo:Gl X x:=by rfl)(hd2:kC x:=by decide)
  (Fi:dD [e,.Name x p2] X.env=(Ã,eF e X.env)::dD [.Name x p2] X.env:=by rfl) (tS:dD [.Name x p2] X.env=(Ã,eF (.Name x p2) X.env)::dD [] X.env:=by rfl) (kL:(jG pos (dD [.Name x p2] X.env)).any (·.1)=Ã:=by rfl) :
  XE X G Y k (.Call (.Name "isinstance" pp) [e,.Name x p2] [] pos) (e1 (xH all sub) f):=by
 obtain⟨t,pt,qt⟩:=he;refine⟨_,Kq VH hg hm uz (yj pt (yj (KS (v:=.ref ϛ) Bo pA rfl hd2) wz tS) Fi) (by decide) (by decide) Fi kL,λF0 B F H Z M d Q rs e w=>?_⟩;obtain⟨d1,h1,h2⟩:=cK e;refine qt F0 B F H Z M d1 _ rs h1 λv F' H' x l=>?_;cases d1 with
 |obj c ns S=>
  unfold xH at h2;dsimp only at h2;by_cases hc:all.contains c=Â
  ·rw[if_pos hc]at h2;cases h2;obtain⟨a,dx,vs,rfl,ha,_⟩:=l.obj x.fh;obtain⟨ic,RZ⟩:=hI c (by simpa using hc);exact⟨_,ϛ,_,_,rfl,.ins ha ic.cl ic.ha ic.hn ic.ht ic.hm,RZ,w _ F' H' x (Al.of (.bl _))⟩
  ·rw[if_neg hc]at h2;cases h2
 |_=>cases h2
section
open PySem PySem.Spec L2
noncomputable def dn (i:Int):Str:=((toString i:String):Str)
def iK:List D->Option D
 |[.int i]=>if i.natAbs.log2<1920 then U (.str (dn i))else L
 |_=>L
theorem wn:By K G [n] k (λxs H Q=>∃i,xs=[.int i]/\i.natAbs.log2<1920/\Q (.str (toString i)) H) iK:=by
 intro F H vs S d Q s l e w;cases l with
 |cons h t=>
  cases t;rename_i d1 v;cases d1 with
  |int i=>
   unfold iK at e;dsimp only at e;by_cases hz:i.natAbs.log2<1920
   ·rw[if_pos hz]at e;cases e;exact⟨i,by rw[h.int],hz,w _ F H (.refl s) (Al.of (.str _))⟩
   ·rw[if_neg hz]at e;cases e
  |_=>cases e
theorem ja {i:Int}(h:Sz 1900 i):iK [.int i]=U (.str (dn i)):=by
 unfold iK;dsimp only;rw[if_pos];by_cases h0:i.natAbs=0
 ·rw[h0];decide
 ·rw[pj h0];exact di h (lA (by decide) (by decide))
theorem zw (s:String):cX.strOk (s:Str)=Â:=by
 unfold cX.strOk;rw[←qX,dE];intro x hx;rw[decide_eq_true_iff];show x<0x110000;rw[Str.ofString_eq_toList]at hx;simp at hx;obtain⟨c,_,rfl⟩:=hx;have h:=c.valid;rcases h with h|⟨h1,h2⟩
 ·have:c.val.toNat<0xd800:=h;show c.val.toNat<_;omega
 ·exact h2
theorem DG (i:Int):cX.strOk (dn i)=Â:=zw _
theorem HP (hx:cX.strOk x=Â)(hy:cX.strOk y=Â):cX.strOk (x++y)=Â:=by unfold cX.strOk at *;show(x.cps++y.cps).all _=Â;rw[Array.all_append,hx,hy];rfl
noncomputable def Es:oA {x:Str // cX.strOk x=Â}:=⟨λx=>.str x.1,λx=>.str x.1,0,λ_=>by simp[D.py],λx=>by simp only[cX.canLay0];exact x.2,λ_=>by simp[cX.depth],λx y=>by
 show(x.1==y.1)=_;by_cases h:x=y
 ·subst h;simp
 ·have:x.1≠y.1:=λz=>h (Subtype.ext z);simp[h,this]⟩
theorem xh (hx:cX.strOk x=Â)(hy:cX.strOk y=Â):ga neg (.str x) (.str y)=U (.bl (if neg then !decide (x=y)else decide (x=y))):=by have:=Es.eq (by decide) (neg:=neg) ⟨x,hx⟩ ⟨y,hy⟩;simpa[Es]using this
theorem OQ {i:Int}(h:Sz 1900 i):(dn i).length<=1921:=by
 refine PyProof.Rows.int_text_len_1921 ?_;by_cases h0:i.natAbs=0
 ·rw[h0];decide
 ·rw[pj h0];exact di h (lA (by decide) (by decide))
theorem vz (x y:Str):(x++y).length=x.length+y.length:=by show(x.cps++y.cps).size=_;rw[Array.size_append];rfl
end
def Ds (K:cm):V->List V->Hp->VK->Prop:=λx vs H Q=>∃p ys y j,x=.ref p/\vs=[y]/\ir K H p ys/\mZ y=Â/\ys.all mZ=Â/\ys.findIdx? (λz=>yX z y)=U j/\Q (.int (j:Nat)) H
theorem OR:∀{xs:List V} {us:List cj} {x:V},dU xs us->xs.all mZ=Â->us.map (vC x)=xs.map λy=>yX y x
 |_,_,_,.nil,_=>rfl
 |y::xs,u::us,x,.cons r t,f=>by rw[fq,cY]at f;rw[cL,cL,Lb r f.1,OR t f.2]
theorem W6:CV X "list.index" (Ds X.K):=by
 intro cn s M H x vs v us Q I rx rv h;obtain⟨p,ys,y,j,rfl,rfl,hq,fy,fs,hj,q⟩:=h;cases rx;obtain⟨u,rfl,ru⟩:=rv.one;obtain⟨dZ,r,pl,hz⟩:=I.list hq;obtain⟨⟨cls,dd,data,sl⟩,ho,hc,n,hd⟩:=pl.isList;simp only at hc hd;subst hc hd;have hm:=OR (x:=y) r fs;have iu:=r.length;obtain⟨j1,j2,j3⟩:=qE.mp hj;have LZ:∀i (hi:i<dZ.length),vC y dZ[i]=yX (ys[i]'(by omega)) y:=λi hi=>by have:=congrArg (λl=>l[i]?) hm;simp only[dm]at this;rw[dh hi,dh (by omega)]at this;simpa using this
 have hzl:ys.length<=16777216:=hz;refine nj PySem.F.slot_list_index ⟨_,ho,rfl⟩ PySem.F.entry_list_index (PySem.F.args_list_index_2 _ _)
  (SeqAt.list_indexAt p dZ.toArray n dd sl u (vC y) j (by simp;omega) (by omega) ?_ ?_) ⟨ho,λw hw=>v9 ru fy r fs w (by simpa using hw),.int (j:Nat),H,I.tok _,⟨_,rfl⟩,q⟩
 ·simp only[wQ];rw[LZ j (by omega)];exact j2
 ·intro i hi vD;simp only[wQ];rw[LZ i (by simpa using hi)];simpa using j3 i vD
def AK:D->D->Option D
 |.lst S,x=>if x.sc=Â/\S.all D.sc=Â then(S.findIdx? λy=>Ct y x).bind λj=>U (.int (j:Nat))else L
 |_,_=>L
theorem PM {x:D}(hx:x.sc=Â):∀{S:List D},S.all D.sc=Â->(S.map D.v).findIdx? (λz=>yX z x.v)=S.findIdx? λy=>Ct y x
 |[],_=>rfl
 |d::S,h=>by rw[fq,cY]at h;rw[cL,yK,yK,P5 h.1 hx,PM hx h.2]
theorem N6 (ho:XE X G Y n o f)(he:XE X G Y m e g)(m6:SE X e []:=by rfl)
  (lR:Ae X o "index":=by rfl)
  (pP:Co X fN [e]:=by rfl)
  (lS:(fQ.endLine==fN.line)=Â:=by rfl) (jQ:pL X fN []:=by rfl) :
  XE X G Y k (.Call (.Attribute o "index" fQ) [e] [] fN) (e2 AK f g):=by
 obtain⟨ta,pa,qa⟩:=ho;obtain⟨tb,pb,qb⟩:=he;refine⟨_,DM PySem.F.plainAttrs_list PySem.F.slot_list_index PySem.F.type_list_index W6 pa (yj pb wz m6) lR pP lS m6 jQ,λF0 B F H Z M d Q rs e w=>?_⟩;obtain⟨d1,d2,h1,h2,h3⟩:=eL e;refine qa F0 B F H Z M d1 _ rs h1 λv1 F1 H1 x1 l1=>?_;cases d1 with
 |lst S=>
  unfold AK at h3;dsimp only at h3;by_cases hz:d2.sc=Â/\S.all D.sc=Â
  ·rw[if_pos hz]at h3;obtain⟨j,hj,h4⟩:=cK h3;cases h4;obtain⟨p,vs,rfl,hp,GY⟩:=l1.lst x1.fh;refine⟨.inl ⟨rfl,_,hp⟩,qb F0 B F1 H1 Z M d2 _ (rs.ext x1) h2 λv2 F2 H2 x2 l2=>?_⟩;have hv:=GY.vs hz.2;subst hv;have hx:=Al.v l2 hz.1;subst hx;exact⟨p,_,_,j,rfl,rfl,x2.hh.seq hp,D.flat hz.1,u2 hz.2,by rw[PM hz.1 hz.2];exact hj,w _ F2 H2 (x1.trans x2) (Al.of (.int _))⟩
  ·rw[if_neg hz]at h3;cases h3
 |_=>cases h3
theorem U6 {vY:oj}
  (hm:Y[i]?=U (.ow k)) (hN:X.N.Nodup) (D1:X.N[i]?=U x) (hx:õ X.env.scope x)
  (B:oz X scope N own cap) (hc:X.calm=Â) (ho:om.length=own) (kU:∀i∈cap,i<Y.length) (hi:BA X G Y n tg iter fi)
  (hg:∀cl ϛ fp s₀ H₀,Av (nu X scope cl N ϛ fp s₀ H₀) G (om++i9 Y cap) own n tg gg) (ht:∀cl ϛ fp s₀ H₀,BB (nu X scope cl N ϛ fp s₀ H₀) G (om++i9 Y cap) ifs p) (he:∀cl ϛ fp s₀ H₀,XO (nu X scope cl N ϛ fp s₀ H₀) G (om++i9 Y cap) (k-1) pz f)
  (BJ:gQ (.ListComp pz [⟨tg,iter,ifs,0⟩] scope pos) (U (.Name x pos')) vY.line X.env=pure Â:=by rfl)
  (hs:Ao X iter:=by intro _;rfl) (hf:uZ X x:=by walk_at "v2") :
  XS X G Y rk (.Assign [.Name x pos'] (.ListComp pz [⟨tg,iter,ifs,0⟩] scope pos) vY) (Ì i (eJ fi own cap gg p f)):=by
 obtain⟨wi,g,tt,te,pi,kg,pg,pt,pe,q⟩:=NM (k:=k-1) (pos:=pos) B hc ho kU hi hg ht he;refine⟨_,U3 B hc pi kg pg pt pe hN D1 hx BJ hs hf,λF0 B F H Z M o E rs e w=>?_⟩;obtain⟨d,h1,h2⟩:=cK e;cases h2;cases k with
 |succ k=>exact q F0 B F H Z M d _ rs h1 λv F' H' fp x l nd hf=>w _ F' H' (rs.set hm x l nd hf)
 |zero=>refine q F0 B F H Z M d _ rs h1 λv F' H' fp x l nd hf=>?_;obtain⟨F2,x2,l2⟩:=l.freeze x hf;exact w _ F2 H' (rs.set hm x2 (Ow.zero l2) dz λa z=>by cases z)
theorem K3 (hm:Y[i]?=U (.ow k))(hN:X.N[i]?=U x:=by rfl)(hv:sm X.env.scope x:=by walk_at "v1")(hd:kC x:=by decide)
  (kW:tI x:=by decide):XS X G Y 0 (.Return (U (.Name x pos')) pos) (Ê (C i)):=by
 refine⟨_,DH (xm hN hv hd kW),λF0 B F H Z M o E rs e w=>?_⟩;obtain⟨d,h1,h2⟩:=cK e;cases h2;obtain⟨fp,sl,nd,hb⟩:=rs.sl;obtain⟨f1,fr,i1,i2,i3,i4,i5⟩:=sl.put hm;obtain⟨v,BK,l⟩:=i4 d (zl h1);obtain⟨F',x,l2⟩:=l.freeze (⟨rs.f0,rs.bh,rs.fh,rs.nf⟩:kx F0 B F H) (λz hz=>hb z (i1 z hz));exact⟨v,BK,w v F' H [] x.ff x.hh x.fh x.nf (Ow.zero l2) dz λz hz=>by cases hz⟩
theorem Z3 (hu:X.A.units+1<oR)(ha:XE X G Y n a f)(hb:XE X G Y m b g)(hm:fU .In b=Ã):XT X G Y (.Compare a [.In] [b] pos) (tb λZ=>(f Z).bind λx=>(g Z).bind λy=>(sE y x).bind λr=>U (.bl r.isSome)):=by
 obtain⟨ta,tb',pa,pb,q⟩:=ha.bin hb;refine⟨_,Lc (Β hu pa pb) hm,λF0 B F H Z M t Q rs e w=>?_⟩;obtain⟨d0,h0,h9⟩:=cK e;obtain⟨d1,d2,h1,h2,h3⟩:=eL h0;obtain⟨r,h4,h5⟩:=cK h3;cases h5;cases h9;refine q F0 B F H Z M d1 d2 _ rs h1 h2 λx y F' H' x1 l1 l2=>?_;obtain⟨a,o,rfl,g,_,h⟩:=OI (r:=r) x1.fh l2 l1 h4;refine⟨a,o,rfl,g,?_⟩;cases r with
 |none=>rw[h.none_of];exact⟨_,rfl,w F' H' x1⟩
 |some d=>obtain⟨u,rfl,D3⟩:=h.some_of;exact⟨_,rfl,w F' H' x1⟩
theorem iF.upd {R R':D->V->List cr->Prop}{vs:List V}(h:iF R S vs fp)(e:S[i]?=U d):∃v f,vs[i]?=U v/\R d v f/\(∀a∈f,a∈fp) /\
  ∀d',R' d' v f->fp.Nodup->(∀d v f',(∀a∈f',a∈fp)->(∀a∈f',a∉f)->R d v f'->R' d v f')->iF R' (S.set i d') vs fp:=by
 induction h generalizing i with
 |nil=>cases e
 |@cons _ _ _ _ f g h t ih=>
  cases i with
  |zero=>cases e;refine⟨_,f,rfl,h,λa ha=>c7 _ ha,λd' hd nd ot=>?_⟩;rw[cT]at nd;exact .cons hd (t.mono λd v f' hi r=>ot d v f' (λa ha=>cC _ (hi a ha)) (λa ha hf=>nd.2.2 a hf a (hi a ha) rfl) r)
  |succ i=>obtain⟨v,f2,h1,h2,h3,h4⟩:=ih (i:=i) e;refine⟨v,f2,h1,h2,λa ha=>cC _ (h3 a ha),λd' hd nd ot=>?_⟩;rw[cT]at nd;exact .cons (ot _ _ f (λa ha=>c7 _ ha) (λa ha hf=>nd.2.2 a ha a (h3 a hf) rfl) h) (h4 d' hd nd.2.1 λd v f' hi hn r=>ot d v f' (λa ha=>cC _ (hi a ha)) hn r)
def xM (i:Nat)(fj fl f:EF):SF:=λZ=>(f Z).bind λd=>(C i Z).bind λo=>(fj Z).bind λj=>(fl Z).bind λl=>match o,j,l with
 |.lst rs,.int y,.int z=>(ò rs.length y).bind λy'=>(rs[y']?).bind λr=>(match r with
  |.lst S=>(mI S z d).bind λtJ=>U (.nx (Z.set i (U (.lst (rs.set y' (.lst tJ))))))
  |_=>L)
 |_,_,_=>L
theorem W7 (i:Nat){j l:Expr}{fl:EF}(hm:Y[i]?=U (.ow 2))(hj:XE X G Y n j fj)(hl:XE X G Y m l fl)(hp:oW j)(he:XE X G Y 0 e f)(hN:X.N[i]?=U x:=by rfl)(hv:sm X.env.scope x:=by walk_at "v1")(hd:kC x:=by decide)
  (kW:tI x:=by decide)
  (ha:∀v,lK (.Subscript (.Subscript (.Name x p1) j p2) l mq) X.env v=(do
   let ov ← f9 [v] (eF (.Subscript (.Name x p1) j p2) X.env)
   let iv ← f9 [v,ov] (eF l X.env)
   kA mq
   f9 [v,ov,iv] (tG ov iv v)
   Ab [v,ov,iv] []):=by intro _;rfl)
  (hs:rR [.Subscript (.Subscript (.Name x p1) j p2) l mq] e pos.line X.env=pure Ã:=by rfl) (hw:rQ [.Subscript (.Subscript (.Name x p1) j p2) l mq] e X.env=pure L:=by rfl)
  (h1:(ef [.Subscript (.Subscript (.Name x p1) j p2) l mq] X.env).map (·.2)=[lK (.Subscript (.Subscript (.Name x p1) j p2) l mq) X.env]:=by rfl) :
  XS X G Y rk (.Assign [.Subscript (.Subscript (.Name x p1) j p2) l mq] e pos) (xM i fj fl f):=by
 obtain⟨t,pt,qt⟩:=he;obtain⟨tj,Do,Dp⟩:=hj;obtain⟨tl,Sd,Sh⟩:=hl;refine⟨_,Ld pt (Pq (Lu Oo (xm hN hv hd kW) Do hp) Sd Kr ha) hs hw h1,λF0 B F H Z M o E rs e z=>?_⟩;obtain⟨d,g1,g2⟩:=cK e;obtain⟨d1,Aw,g3,g4,g5⟩:=eL g2;obtain⟨Qt,g6,g7⟩:=cK g5;refine qt F0 B F H Z M d _ rs g1 λv0 F1 H1 x1 l0=>?_;have pG:=rs.ext x1;obtain⟨f1,fr,n1,b1,dj,i4,cf,put⟩:=pG.put (F':=F) (H':=H) hm;obtain⟨v,hσ,ow⟩:=i4 d1 (zl g3);refine⟨v,hσ,Dp F0 B F1 H1 Z M Aw _ pG g4 λvj F2 H2 x2 lj=>?_⟩;cases d1 with
 |lst rws=>
  cases Aw with
  |int yi=>
   cases Qt with
   |int zi=>
    obtain⟨y',k1,k2⟩:=cK g7;obtain⟨r,k3,k4⟩:=cK k2;cases r with
    |lst S=>
     obtain⟨tJ,k5,k6⟩:=cK k4;cases k6;obtain⟨jn,k8,k9⟩:=cK k5;cases k9;obtain⟨ad,vs,Cu,rfl,rfl,hF,hH,ol⟩:=ow.lst_inv;obtain⟨vr,f2,q1,q2,q3,q4⟩:=iF.upd (R':=Ow X.K G F2 (upd H2 0 (.lst [])) 1) ol k3;obtain⟨bd,us,LP,rfl,rfl,Q5,IC,JF⟩:=q2.lst_inv;clear q4;have hA:H2 ad=U (.lst vs):=x2.hh _ _ hH;refine⟨ad,vs,yi,.ref bd,rfl,lj.int,ir.of hA,?_,?_⟩
     ·unfold atI;rw[←ol.length,k1];exact q1
     ·refine Sh F0 B F2 H2 Z M _ _ (pG.ext x2) g6 λvl F3 H3 x3 ll=>?_;have rK:=x2.trans x3;have hB:H3 bd=U (.lst us):=rK.hh _ _ IC;have fB:F3 bd=L:=rK.nf bd _ IC nofun Q5;have e0:=JF.nil0;subst e0;have D5:=dG.mp n1;have L7:bd∈Cu:=q3 bd cg;have xG:ad≠bd:=λz=>D5.1 (z▸L7);refine⟨bd,us,zi,jn,rfl,ll.int,hB,by rw[←JF.length];exact k8,?_⟩;obtain⟨vr',f2',Mt,Se,Mu,Sf⟩:=iF.upd (R':=Ow X.K G F3 (upd H3 bd (.lst (us.set jn v0))) 1) ol k3;rw[q1]at Mt;cases Mt;obtain⟨bd',us',QT,eb,rfl,_,LW,JG⟩:=Se.lst_inv;cases eb;have e1:=JG.nil0;subst e1;rw[IC]at LW;cases LW;refine z M F3 _ (pG.change hm rK hσ b1 dj cf put (ck _ L7) fB (.inr (.lst (rK.nf ad _ hH nofun hF) (by rw[zm xG];exact rK.hh _ _ hH) (Sf (.lst (S.set jn d)) (.inr (.lst fB zo (iF.set0 ⟨Dt.mono rK.ff l0,rfl⟩ (λ_ _ _ q=>q.2) jn (JF.mono λ_ _ _ _ q=>⟨q.1.mono rK.ff,q.2⟩)))) D5.2 ?_))) (fn:=ad::Cu) n1 λa ha=>.inl ha);intro d0 v1 f' Jf II o';refine(o'.ext rK).frame (.refl _) λa' GS=>⟨zm λe=>II a' GS (by rw[e];exact cg),((o'.ext rK).cells a' GS).1⟩
    |_=>cases k4
   |_=>cases g7
  |_=>cases g7
 |_=>cases g7
theorem SL.fz (h0:SL K G F B H Y Z M fp)(s:dJ F H):fp.Nodup->Y[i]?=U (.ow k)->∃f1:List cr,(∀a∈f1,a∈fp) /\
  ∃lL,SL K G (mJ F H f1) B H (Y.set i (.ow 0)) Z M lL/\lL.Nodup/\∀a∈lL,a∈fp/\a∉f1:=by
 induction h0 generalizing i with
 |nil=>intro _ e;simp at e
 |@no m0 o0 Y Z M fp t ih=>
  intro nd e;cases i with
  |zero=>obtain⟨w1,w2,w3⟩:=xz (F:=F) (H:=H) (fp:=[]) s (λa z=>by cases z);exact⟨[],λa z=>(by cases z),fp,.no (t.frame w1 λa z=>⟨rfl,by unfold mJ;rw[if_neg (by simp)];exact(t.cells a z).1⟩),nd,λa z=>⟨z,by simp⟩⟩
  |succ i=>obtain⟨f1,h1,lL,q1,q2,q3⟩:=ih (i:=i) nd (by simpa using e);exact⟨f1,h1,lL,.no q1,q2,q3⟩
 |@al n0 d0 v0 Y Z M fp h t ih=>
  intro nd e;cases i with
  |zero=>simp at e
  |succ i=>obtain⟨f1,h1,lL,q1,q2,q3⟩:=ih (i:=i) nd (by simpa using e);obtain⟨w1,w2,w3⟩:=xz (F:=F) (H:=H) (fp:=f1) s (λa z=>(t.cells a (h1 a z)).1);exact⟨f1,h1,lL,.al (h.mono w1 (.refl _)) q1,q2,q3⟩
 |@px d0 v0 Y Z M fp h t ih=>
  intro nd e;cases i with
  |zero=>simp at e
  |succ i=>obtain⟨f1,h1,lL,q1,q2,q3⟩:=ih (i:=i) nd (by simpa using e);obtain⟨w1,w2,w3⟩:=xz (F:=F) (H:=H) (fp:=f1) s (λa z=>(t.cells a (h1 a z)).1);exact⟨f1,h1,lL,.px (h.mono w1 (.refl _)) q1,q2,q3⟩
 |@so d0 x Y Z M fp h t ih=>
  intro nd e;cases i with
  |zero=>simp at e
  |succ i=>
   obtain⟨n1,n2⟩:=dG.mp nd;obtain⟨f1,h1,lL,q1,q2,q3⟩:=ih (i:=i) n2 (by simpa using e);obtain⟨w1,w2,w3⟩:=xz (F:=F) (H:=H) (fp:=f1) s (λa z=>(t.cells a (h1 a z)).1);refine⟨f1,λa z=>ck _ (h1 a z),x::lL,.so (h.frame w1 λa z=>⟨rfl,?_⟩) q1,dG.mpr ⟨λz=>n1 (q3 x z).1,q2⟩,λa z=>?_⟩
   ·rw[cG]at z;unfold mJ;rw[if_neg λq=>n1 (z▸h1 a q)];exact(h.cells a (by rw[z];exact cg)).1
   ·rcases cu.mp z with z|z
    ·exact⟨z▸cg,λq=>n1 (z▸h1 a q)⟩
    ·exact⟨ck _ (q3 a z).1,(q3 a z).2⟩
 |@ow n0 d0 v0 Y Z M f fp h t ih=>
  intro nd e;cases i with
  |zero=>obtain⟨w1,w2,w3⟩:=xz (F:=F) (H:=H) (fp:=f) s (λa z=>(h.cells a z).1);obtain⟨n1,n2,n3⟩:=cT.mp nd;refine⟨f,λa z=>c7 _ z,[]++fp,.ow ⟨h.dt w1 w3,rfl⟩ (t.frame w1 λa z=>⟨rfl,?_⟩),n2,λa z=>⟨cC _ z,λq=>n3 a q a z rfl⟩⟩;unfold mJ;rw[if_neg λq=>n3 a q a z rfl];exact(t.cells a z).1
  |succ i=>
   obtain⟨n1,n2,n3⟩:=cT.mp nd;obtain⟨f1,h1,lL,q1,q2,q3⟩:=ih (i:=i) n2 (by simpa using e);obtain⟨w1,w2,w3⟩:=xz (F:=F) (H:=H) (fp:=f1) s (λa z=>(t.cells a (h1 a z)).1);refine⟨f1,λa z=>cC _ (h1 a z),f++lL,.ow (h.frame w1 λa z=>⟨rfl,?_⟩) q1,cT.mpr ⟨n1,q2,λa z b zb=>n3 a z b (q3 b zb).1⟩,λa z=>?_⟩
   ·unfold mJ;rw[if_neg λq=>n3 a z a (h1 a q) rfl];exact(h.cells a z).1
   ·rcases cW.mp z with z|z
    ·exact⟨c7 _ z,λq=>n3 a z a (h1 a q) rfl⟩
    ·exact⟨cC _ (q3 a z).1,(q3 a z).2⟩
theorem SL.forget (m':Mo)(i:Nat)(h0:SL K G F B H Y Z M fp):∃lL,SL K G F B H (Y.set i m') (Z.set i L) M lL/\lL.Sublist fp:=by
 induction h0 generalizing i with
 |nil=>exact⟨[],.nil,.refl _⟩
 |@no m0 o0 Y Z M fp t ih=>
  cases i with
  |zero=>exact⟨fp,.no t,.refl _⟩
  |succ i=>obtain⟨lL,q1,q2⟩:=ih i;exact⟨lL,.no q1,q2⟩
 |@al n0 d0 v0 Y Z M fp h t ih=>
  cases i with
  |zero=>exact⟨fp,.no t,.refl _⟩
  |succ i=>obtain⟨lL,q1,q2⟩:=ih i;exact⟨lL,.al h q1,q2⟩
 |@px d0 v0 Y Z M fp h t ih=>
  cases i with
  |zero=>exact⟨fp,.no t,.refl _⟩
  |succ i=>obtain⟨lL,q1,q2⟩:=ih i;exact⟨lL,.px h q1,q2⟩
 |@so d0 x Y Z M fp h t ih=>
  cases i with
  |zero=>exact⟨fp,.no t,List.sublist_cons_self _ _⟩
  |succ i=>obtain⟨lL,q1,q2⟩:=ih i;exact⟨_,.so h q1,q2.cons₂ _⟩
 |@ow n0 d0 v0 Y Z M f fp h t ih=>
  cases i with
  |zero=>exact⟨fp,.no t,List.sublist_append_right _ _⟩
  |succ i=>obtain⟨lL,q1,q2⟩:=ih i;exact⟨_,.ow h q1,(List.Sublist.refl _).append q2⟩
theorem RS.fz (rs:RS K G F0 B Y F H Z M)(hm:Y[i]?=U (.ow k)):∃F',RS K G F0 B (Y.set i (.ow 0)) F' H Z M:=by
 obtain⟨fp,sl,nd,hb⟩:=rs.sl;obtain⟨f1,h1,lL,q1,q2,q3⟩:=sl.fz rs.fh nd hm;obtain⟨w1,w2,w3⟩:=xz (F:=F) (H:=H) (fp:=f1) rs.fh (λa z=>(sl.cells a (h1 a z)).1);refine⟨mJ F H f1,rs.f0.trans w1,rs.bh,w2,λa o ho nt hn=>?_,lL,q1,q2,λa z=>hb a (q3 a z).1⟩;have:¬a∈f1:=λz=>by rw[hb a (h1 a z)]at ho;cases ho
 unfold mJ;rw[if_neg this];exact rs.nf a o ho nt hn
theorem RS.forget (m':Mo)(i:Nat)(rs:RS K G F0 B Y F H Z M):RS K G F0 B (Y.set i m') F H (Z.set i L) M:=by obtain⟨fp,sl,nd,hb⟩:=rs.sl;obtain⟨lL,q1,q2⟩:=sl.forget m' i;exact⟨rs.f0,rs.bh,rs.fh,rs.nf,lL,q1,q2.nodup nd,λa z=>hb a (q2.subset z)⟩
noncomputable def AS (i:Nat):ý->ý
 |.nx Z=>.nx (Z.set i L)
 |.rt d=>.rt d
 |.bk Z=>.bk (Z.set i L)
 |.ct Z=>.ct (Z.set i L)
def ċ (i:Nat)(u:SF):SF:=λZ=>(u Z).bind λo=>U (AS i o)
theorem M7 (hm:Y[i]?=U (.ow k)):(Y.set i (.ow 0)).set i (.ow k)=Y:=by
 rw[List.set_set];apply qK;intro j;rw[zV];split
 ·next h=>subst h;rw[hm];have:=(de.mp hm).1;rw[if_pos this]
 ·rfl
theorem Ō {t:qP->St->Hp->Prop}(hm:Y[i]?=U (.ow k))
  (q:∀(F0 B F H:Hp) (Z:Env) (M:St) (o:ý) (E:qP),RS X.K G F0 B (Y.set i (.ow 0)) F H Z M->w Z=U o->rB X.K G F0 B (Y.set i (.ow 0)) rk E o->t E M H)
  (F0 B F H:Hp) (Z:Env) (M:St) (o:ý) (E:qP) (rs:RS X.K G F0 B Y F H Z M) (e:ċ i w Z=U o) (z:rB X.K G F0 B Y rk E o):t E M H:=by
 obtain⟨F',r2⟩:=rs.fz hm;obtain⟨o1,e1,e2⟩:=cK e;refine q F0 B F' H Z M o1 E r2 e1 ?_;have back:∀{ρ':Env} {σ':St} {F2 H2:Hp},RS X.K G F0 B (Y.set i (.ow 0)) F2 H2 ρ' σ'->RS X.K G F0 B Y F2 H2 (ρ'.set i L) σ':=λr=>by have:=r.forget (.ow k) i;rw[M7 hm]at this;exact this
 cases o1 with
 |nx ρ'=>cases e2;exactλσ' F2 H2 r=>z σ' F2 H2 (back r)
 |rt d=>cases e2;exact z
 |bk ρ'=>cases e2;exactλσ' F2 H2 r=>z σ' F2 H2 (back r)
 |ct ρ'=>cases e2;exactλσ' F2 H2 r=>z σ' F2 H2 (back r)
theorem Z4 {FW:List dS}(hm:Y[i]?=U (.ow k))(h:vA X G (Y.set i (.ow 0)) rk FW w):vA X G Y rk FW (ċ i w):=by obtain⟨t,pt,qt⟩:=h;exact⟨t,pt,Ō hm qt⟩
theorem Ħ:AS i (.rt d)=.rt d:=rfl
theorem ĥ:AS i (.nx Z)=.nx (Z.set i L):=rfl
noncomputable def oQ:List D->List D->List D
 |x::xs,y::ys=>.tup [x,y]::oQ xs ys
 |_,_=>[]
theorem Ky:∀{xs ys:List D} {i:Nat} {d:D},(oQ xs ys)[i]?=U d->∃x y,xs[i]?=U x/\ys[i]?=U y/\d=.tup [x,y]
 |[],_,_,_,h=>by simp[oQ]at h
 |_::_,[],_,_,h=>by simp[oQ]at h
 |x::xs,y::ys,0,d,h=>by simp[oQ]at h;subst h;exact⟨x,y,rfl,rfl,rfl⟩
 |x::xs,y::ys,i+1,d,h=>by obtain⟨u,v,h1,h2,h3⟩:=Ky (xs:=xs) (ys:=ys) (i:=i) (d:=d) (by simpa[oQ]using h);exact⟨u,v,by simpa using h1,by simpa using h2,h3⟩
theorem Kz:∀{xs ys:List D},(oQ xs ys).length=min xs.length ys.length
 |[],_=>by simp[oQ]
 |_::_,[]=>by simp[oQ]
 |x::xs,y::ys=>by simp[oQ,Kz (xs:=xs) (ys:=ys)]
theorem Z5 {a b:cr}{vs:List V}{es:List D}(hp:Pr (Al K G F B n) S vs)(BH:Pr (Al K G F B n) es us)(keep:∀F' H',dJ F F'->dJ B H'->dJ F' H'->ir K H' a vs)(Fy:∀F' H',dJ F F'->dJ B H'->dJ F' H'->ir K H' b us):yU K G F B (n+1) (Ij K a b) (oQ S es):=by intro i F' H' s1 s2 s3;have hs:ir K H' a vs:=keep F' H' s1 s2 s3;have BI:ir K H' b us:=Fy F' H' s1 s2 s3;refine⟨λd hd=>?_,λhl=>⟨vs,us,⟨hs,BI⟩,by rw[←hp.length,←BH.length];rw[Kz]at hl;omega⟩⟩;obtain⟨x,y,hx,hy,rfl⟩:=Ky hd;obtain⟨v,hv,l⟩:=hp.get' hx;obtain⟨u,hu,l'⟩:=BH.get' hy;refine⟨⟨vs,us,v,u,⟨hs,BI⟩,hv,hu⟩,λz H2 q=>?_⟩;obtain⟨r,v',u',hr,rfl,rfl,q1,q2⟩:=q;have e1:=q1 vs hs;have e2:=q2 us BI;rw[hv]at e1;rw[hu]at e2;cases e1;cases e2;exact⟨_,kx.newS s3 hr _,.inr (.tup zo (.cons (l.mono (s1.trans (wg (s3.free hr) _)) (.refl _)) (.cons (l'.mono (s1.trans (wg (s3.free hr) _)) (.refl _)) .nil)))⟩
def zS:List D->Option (List D)
 |[.lst xs,.lst ys]=>U (oQ xs ys)
 |_=>L
theorem OS {kt:Nat}(hm:X.mg "zip"=L)(ha:XA X G Y [a,b] [n,n] fs)(hg:Gl X "zip":=by rfl)(hs:dD [a,b] X.env=[(Ã,eF a X.env),(Ã,eF b X.env)]:=by rfl)(tS:SN X b:=by rfl) :
  BA X G Y (n-1+1) (.Tuple qS kt pt) (.Call (.Name "zip" pp) [a,b] [] pos) (λZ=>(fs Z).bind zS):=by
 obtain⟨t,pt,_,qt⟩:=ha;refine⟨_,ż hg hm pt hs tS,λF0 B F H Z M S R rs e w=>?_⟩;obtain⟨tJ,h1,h2⟩:=cK e;refine qt F0 B F H Z M _ _ rs h1 λvs F' H' x l=>?_;cases l with
 |cons h t=>
  cases t with
  |cons h' t=>
   cases t;rename_i d v d' v';cases d with
   |lst xs=>
    cases d' with
    |lst ys=>cases h2;obtain⟨a,vs,rfl,ha,hp⟩:=h.lst x.fh;obtain⟨b,us,rfl,hb,BH⟩:=h'.lst x.fh;exact⟨a,b,rfl,⟨vs,us,ha,hb⟩,w _ F' H' x (Z5 hp BH (λF2 H2 s1 s2 s3=>s2.seq ha) (λF2 H2 s1 s2 s3=>s2.seq hb))⟩
    |_=>cases h2
   |_=>cases h2
def sY (d:D)(lo hi:Option Int):Option D:=match d with
 |.tup xs=>if HT.sIx xs.length 0 lo=0/\HT.sIx xs.length xs.length hi=xs.length then L else U (.tup (á xs lo hi))
 |_=>L
def Ą (f:EF):EF:=λZ=>(f Z).bind λd=>if d.sc=Â then U d else L
theorem VV {lo hi:Option Expr}{pl ph:PF}{p1}(hn:n<=1)(he:XE X G Y n e f)(hl:XP X G Y lo pl)(hh:XP X G Y hi ph):XO X G Y 1 (.Subscript e (.Slice lo hi L p1) pos) (λZ=>(f Z).bind λd=>(pl Z).bind λl=>(ph Z).bind λh=>sY d l h):=by
 obtain⟨t,pt,qt⟩:=he;obtain⟨t1,zK,zL⟩:=hl;obtain⟨t2,tT,tU⟩:=hh;refine⟨_,NU Ζ pt zK tT,λF0 B F H Z M r Q rs e w=>?_⟩;obtain⟨d,l,h1,h2,h3⟩:=eL e;obtain⟨hh,h4,h5⟩:=cK h3;refine qt F0 B F H Z M d _ rs h1 λv F1 H1 x1 l1=>?_;refine zL F0 B F1 H1 Z M l _ (rs.ext x1) h2 λF2 H2 x2=>?_;refine tU F0 B F2 H2 Z M hh _ ((rs.ext x1).ext x2) h4 λF3 H3 x3=>?_;cases d with
 |tup xs=>
  unfold sY at h5;dsimp only at h5;have rK:=x2.trans x3;obtain⟨a,vs,rfl,ha,hp⟩:=Al.tup1 hn (l1.mono rK.ff rK.hh) rK.fh;by_cases hz:HT.sIx xs.length 0 l=0/\HT.sIx xs.length xs.length hh=xs.length
  ·rw[if_pos hz]at h5;cases h5
  ·rw[if_neg hz]at h5;cases h5;refine⟨a,vs,rfl,nG.of ha,by rw[←hp.length];exact hz,λp Jd=>?_⟩;have xn:=kx.newS rK.fh Jd (.tup (uL vs l hh));refine w _ _ _ [] ((x1.trans rK).trans xn) (.inr (.tup zo (iF.ofPr ((OM hp).mono λ_ _ q=>⟨Dt.mono xn.ff q,rfl⟩)))) dz λz hz=>by cases hz
 |_=>cases h5
theorem DK (he:XE X G Y n e f):XO X G Y k e (Ą f):=by
 obtain⟨t,p,q⟩:=he;refine⟨t,p,λF0 B F H Z M d Q r e w=>?_⟩;obtain⟨d0,h1,h2⟩:=cK e;by_cases hs:d0.sc=Â
 ·rw[if_pos hs]at h2;cases h2;exact q F0 B F H Z M d Q r h1 λv F' H' x l=>w v F' H' [] x (Ow.scal (Al.scal l hs) hs) dz λa z=>(by cases z)
 ·rw[if_neg hs]at h2;cases h2
noncomputable def lT:D->Bool
 |.lst _=>Â
 |.dK _ _=>Â
 |.dT _ _=>Â
 |.obj _ _ _=>Â
 |_=>Ã
theorem Ow.cell {v:V}(h:Ow K G F H 1 d v fp)(hc:lT d=Â):∃a,v=.ref a/\fp=[a]:=by
 cases d with
 |lst S=>obtain⟨a,vs,fr,rfl,rfl,_,_,ol⟩:=h.lst_inv;have e0:=ol.nil0;subst e0;exact⟨_,rfl,rfl⟩
 |dK ks S=>obtain⟨a,vs,fr,rfl,rfl,_,_,_,ol⟩:=h.dK_inv;have e0:=ol.nil0;subst e0;exact⟨_,rfl,rfl⟩
 |dT ks S=>obtain⟨a,vs,fr,rfl,rfl,_,_,_,ol⟩:=h.dT_inv;have e0:=ol.nil0;subst e0;exact⟨_,rfl,rfl⟩
 |obj c ns S=>obtain⟨a,dx,vs,fr,rfl,rfl,_,_,_,ol⟩:=h.obj_inv;have e0:=ol.nil0;subst e0;exact⟨_,rfl,rfl⟩
 |_=>cases hc
theorem SL.putS {x:cr}(h0:SL K G F B H Y Z M fp):fp.Nodup->Y[i]?=U (.so x)->Z[i]?=U (U d) ->
  M[i]?=U (U (.ref x))/\Ow K G F H 1 d (.ref x) [x]/\x∈fp/\∀(F' H':Hp) (d':D),dJ F F'->(∀a∈fp,a≠x->H' a=H a/\F' a=L)->Ow K G F' H' 1 d' (.ref x) [x]->SL K G F' B H' Y (Z.set i (U d')) M fp:=by
 induction h0 generalizing i with
 |nil=>intro _ e _;simp at e
 |@no m0 o0 Y Z M fp t ih=>
  intro nd e e';cases i with
  |zero=>have e:=e';simp at e
  |succ i=>obtain⟨h1,h2,h3,h4⟩:=ih (i:=i) nd (by simpa using e) (by simpa using e');exact⟨by simpa using h1,h2,h3,λF' H' d' s k o=>.no (h4 F' H' d' s k o)⟩
 |@al n0 d0 v0 Y Z M fp h t ih=>
  intro nd e e';cases i with
  |zero=>simp at e
  |succ i=>obtain⟨h1,h2,h3,h4⟩:=ih (i:=i) nd (by simpa using e) (by simpa using e');exact⟨by simpa using h1,h2,h3,λF' H' d' s k o=>.al (h.mono s (.refl _)) (h4 F' H' d' s k o)⟩
 |@px d0 v0 Y Z M fp h t ih=>
  intro nd e e';cases i with
  |zero=>simp at e
  |succ i=>obtain⟨h1,h2,h3,h4⟩:=ih (i:=i) nd (by simpa using e) (by simpa using e');exact⟨by simpa using h1,h2,h3,λF' H' d' s k o=>.px (h.mono s (.refl _)) (h4 F' H' d' s k o)⟩
 |@so d0 y Y Z M C3 h t ih=>
  intro nd e e';cases i with
  |zero=>simp at e e';subst e;subst e';obtain⟨n1,n2⟩:=dG.mp nd;exact⟨rfl,h,cg,λF' H' d' s k o=>.so o (t.frame s λa z=>k a (ck _ z) λe=>n1 (e▸z))⟩
  |succ i=>obtain⟨n1,n2⟩:=dG.mp nd;obtain⟨h1,h2,h3,h4⟩:=ih (i:=i) n2 (by simpa using e) (by simpa using e');refine⟨by simpa using h1,h2,ck _ h3,λF' H' d' s k o=>.so (h.frame s λa z=>?_) (h4 F' H' d' s (λa z=>k a (ck _ z)) o)⟩;rw[cG]at z;subst z;exact k a cg λe=>n1 (e▸h3)
 |@ow n0 d0 v0 Y Z M f C3 h t ih=>
  intro nd e e';cases i with
  |zero=>simp at e
  |succ i=>obtain⟨n1,n2,n3⟩:=cT.mp nd;obtain⟨h1,h2,h3,h4⟩:=ih (i:=i) n2 (by simpa using e) (by simpa using e');refine⟨by simpa using h1,h2,cC _ h3,λF' H' d' s k o=>.ow (h.frame s λa z=>?_) (h4 F' H' d' s (λa z=>k a (cC _ z)) o)⟩;exact k a (c7 _ z) λe=>n3 a z x h3 e
theorem RS.so_at {ad:cr}(rs:RS K G F0 B Y F H Z M)(hm:Y[i]?=U (.so ad))(hρ:Z[i]?=U (U d)):M[i]?=U (U (.ref ad))/\Ow K G F H 1 d (.ref ad) [ad]/\B ad=L:=by obtain⟨fp,sl,nd,hb⟩:=rs.sl;obtain⟨h1,h2,h3,h4⟩:=sl.putS nd hm hρ;exact⟨h1,h2,hb _ h3⟩
abbrev EM:=Env->Option (D×Env)
def tQ (X:Cx)(G:Nat->cr)(Y:List Mo)(st:List dS)(f:EM):Prop:=∃t,xA X st t/\∀(F0 B F H:Hp) (Z ρ':Env) (M:St) (d:D) (E:qP),RS X.K G F0 B Y F H Z M->f Z=U (d,ρ')->(∀v σ' F' H',RS X.K G F0 B Y F' H' ρ' σ'->Dt X.K G F' d v->E.rt v H')->t E M H
noncomputable def â (f:SF)(g:EM):EM:=λZ=>(f Z).bind λo=>match o with
 |.nx ρ'=>g ρ'
 |_=>L
noncomputable def ø (f:EF):EM:=λZ=>(f Z).bind λd=>U (d,Z)
theorem Gq (he:XE X G Y 0 e f):tQ X G Y [.Return (U e) pos] (ø f):=by obtain⟨t,pt,qt⟩:=he;refine⟨_,KU (DH pt),λF0 B F H Z ρ' M d E rs e z=>?_⟩;obtain⟨d',h1,h2⟩:=cK e;cases h2;exact qt F0 B F H Z M _ _ rs h1 λv F' H' x l=>z v M F' H' (rs.ext x) l
theorem yr {gm:EM}(h1:XS X G Y 0 st u)(h2:tQ X G Y Ó gm):tQ X G Y (st::Ó) (â u gm):=by
 obtain⟨t,pt,qt⟩:=h1;obtain⟨t2,tT,tU⟩:=h2;refine⟨_,Kp pt tT,λF0 B F H Z ρ' M d E rs e z=>?_⟩;obtain⟨o1,e1,e2⟩:=cK e;refine qt F0 B F H Z M o1 _ rs e1 ?_;cases o1 with
 |nx ρ1=>exactλσ' F' H' JP=>tU F0 B F' H' ρ1 ρ' σ' d E JP e2 z
 |rt d=>cases e2
 |bk ρ'=>cases e2
 |ct ρ'=>cases e2
theorem SL.app {Mj:List Mo}{ρ2:Env}{σ2:St}{Bl:List cr}(h2:SL K G F B H Mj ρ2 σ2 Bl)(h0:SL K G F B H Y Z M fp):SL K G F B H (Y++Mj) (Z ++ ρ2) (M ++ σ2) (fp++Bl):=by
 induction h0 with
 |nil=>exact h2
 |@no m0 o0 Y Z M fp t ih=>exact .no ih
 |@al n0 d0 v0 Y Z M fp h t ih=>exact .al h ih
 |@px d0 v0 Y Z M fp h t ih=>exact .px h ih
 |@so d0 x0 Y Z M C3 h t ih=>exact .so h ih
 |@ow n0 d0 v0 Y Z M f0 C3 h t ih=>rw[dR];exact .ow h ih
theorem SL.none {K:cm}{G:Nat->cr}{F B H:Hp}:∀(Y:List Mo),SL K G F B H Y (cy Y.length L) (cy Y.length L) []
 |[]=>.nil
 |m::Y=>.no (SL.none Y)
theorem SL.start0 {K:cm}{G:Nat->cr}{F B H:Hp}:∀{S:List D} {us:List V},Pr (Dt K G F) S us->SL K G F B H (cy S.length (Mo.ow 0)) (S.map U) (us.map U) []
 |_,_,.nil=>.nil
 |_,_,.cons h t=>SL.ow (f:=[]) (Ow.zero h) (SL.start0 t)
variable {gm:EM}
section
def XM (X:Cx)(G:Nat->cr)(Y:List Mo)(e:Expr)(g:EM):Prop:=∃t,PE X e t/\∀(F0 B F H:Hp) (Z ρ':Env) (M:St) (d:D) (Q:VK),RS X.K G F0 B Y F H Z M->g Z=U (d,ρ')->(∀v F' H',RS X.K G F0 B Y F' H' ρ' M->Dt X.K G F' d v->Q v H')->t M H Q
theorem W8 {v:V}(h:M[i]?=U (U v)):M.set i (U v) = M:=by
 apply qK;intro k;rw[zV];by_cases e:i=k
 ·subst e;rw[if_pos rfl];by_cases hl:i < M.length
  ·rw[if_pos hl,h]
  ·rw[if_neg hl,wD (by omega)]
 ·rw[if_neg e]
variable {fd:cz}
theorem ug:∀(Z:Env) (S:List D),Å Z=U S->S.length=0:=λZ S e=>by cases e;rfl
theorem wq (h:∀(Z:Env) (S:List D),fs Z=U S->S.length=n):∀(Z:Env) (S:List D),Ä f fs Z=U S->S.length=n+1:=λZ S e=>by obtain⟨x,xs,h1,h2,h3⟩:=eL e;cases h3;rw[cB,h Z xs h2]
noncomputable def é (i:Nat)(g:EM):SF:=λZ=>(g Z).bind λr=>U (.nx (r.2.set i (U r.1)))
theorem OT (hm:Y[i]?=U (.ow 0))(hN:X.N.Nodup)(hi:X.N[i]?=U x)(hx:õ X.env.scope x)(he:XM X G Y e gm)(hs:EO X e x pos' pos:=by rfl)
  (hf:uZ X x:=by walk_at "v2"):XS X G Y rk (.Assign [.Name x pos'] e pos) (é i gm):=by
 obtain⟨t,pt,qt⟩:=he;refine⟨_,Le hN hi hx pt hs hf,λF0 B F H Z M o E rs e w=>?_⟩;obtain⟨⟨d,ρ'⟩,h1,h2⟩:=cK e;cases h2;exact qt F0 B F H Z ρ' M d _ rs h1 λv F' H' r l=>w _ F' H' (r.set hm (.refl r.fh) (Ow.zero l) dz λa z=>(by cases z))
end
noncomputable def gL (gs:List D->Env->Option Env):D->Env->Option Env:=λd Z=>match d with
 |.lst S=>gs S Z
 |_=>L
theorem Z6 (hc:X.calm=Â)(h:ER X G Y (n-1) pH gs)(hl:(ef pH X.env).length=pH.length:=by rfl)(m6:(ef pH X.env).findIdx? (·.1)=L:=by rfl):XG X G Y n (.Tuple pH j pos) (gL gs):=by
 obtain⟨t,pt,lt,qt⟩:=h;refine⟨_,Ż (n:=pH.length) hc pt hl m6,λF0 B F H Z ρ' M d v Q rs l e w=>?_⟩;cases d with
 |lst S=>
  have:∃a vs,v=.ref a/\ir X.K H a vs/\Pr (Al X.K G F B (n-1)) S vs:=by
   cases n with
   |zero=>
    have l:Dt X.K G F (.lst S) v:=l;cases l with
    |lst q t=>exact⟨_,_,rfl,rs.fh.seq q,t.pr⟩
   |succ n=>
    rcases l with l|l
    ·cases l with
     |lst q t=>exact⟨_,_,rfl,rs.fh.seq q,t.pr.mono λ_ _=>Al.of⟩
    ·cases l with
     |lst q t=>exact⟨_,_,rfl,ir.of (rs.bh _ _ q),t⟩
  obtain⟨a,vs,rfl,ha,hp⟩:=this;exact⟨a,vs,rfl,ha,hp.length.symm.trans (lt _ _ _ e),qt F0 B F H Z ρ' M S vs Q rs hp e w⟩
 |_=>cases e
def GC (X:Cx)(G:Nat->cr)(Y:List Mo)(k i:Nat)(es:List Expr)(f:Env->Option (List D)):Prop:=∃t,PA X es t/\(∀Z S,f Z=U S->S.length=es.length)/\∀(F0 B F H:Hp) (Z:Env) (M:St) (S:List D) (Q:List V->Hp->Prop) (d:D) (v:V) (f1:List cr),RS X.K G F0 B Y F H Z M->Z[i]?=U (U d)->M[i]?=U (U v)->Ow X.K G F H k d v f1->f1.Nodup->f Z=U S ->
 (∀vs F' H' fp,kx F H F' H'->iF (Ow X.K G F' H' k) S vs fp->fp.Nodup->(∀a∈fp,H a=L\/a∈f1)->Q vs H')->t M H Q
theorem Yp (hN:X.N[i]?=U x:=by rfl)(hv:sm X.env.scope x:=by walk_at "v1")(hd:kC x:=by decide)(kW:tI x:=by decide) :
  GC X G Y k i [.Name x p1] (Ä (C i) Å):=by
 refine⟨_,yj (xm hN hv hd kW) wz,λZ S e=>(by obtain⟨y,ys,h1,h2,h3⟩:=eL e;cases h3;cases h2;rfl),λF0 B F H Z M S Q d v f1 rs hρ hσ ow nd e z=>?_⟩;obtain⟨y,ys,h1,h2,h3⟩:=eL e;cases h3;cases h2;have ey:y=d:=by have:=zl h1;rw[hρ]at this;cases this;rfl
 subst ey;refine⟨_,hσ,z [v] F H f1 (.refl rs.fh) ?_ nd λa h=>.inr h⟩;have:=iF.cons (R:=Ow X.K G F H k) ow .nil;rw[dA]at this;exact this
theorem N7 (h1:XO X G Y k a f)(h2:GC X G Y k i es fs)(hs:SE X a es:=by rfl):GC X G Y k i (a::es) (Ä f fs):=by
 obtain⟨ta,pa,qa⟩:=h1;obtain⟨tb,pb,lb,qb⟩:=h2;refine⟨_,yj pa pb hs,λZ S e=>(by obtain⟨x,xs,h1,h2,h3⟩:=eL e;cases h3;rw[cB,cB,lb _ _ h2]),λF0 B F H Z M S Q d v f1 rs hρ hσ ow nd e z=>?_⟩;obtain⟨y,ys,h1,h2,h3⟩:=eL e;cases h3;refine qa F0 B F H Z M y _ rs h1 λu F1 H1 fp x1 l JB hf=>?_;refine qb F0 B F1 H1 Z M ys _ d v f1 (rs.ext x1) hρ hσ (ow.ext x1) nd h2 λus F2 H2 Bl x2 l2 CD Bn=>?_;refine z (u::us) F2 H2 (fp++Bl) (x1.trans x2) (.cons (l.ext x2) l2) ?_ λa ha=>?_
 ·refine cT.mpr ⟨JB,CD,λa ha b hb e=>?_⟩;subst e;obtain⟨_,o,ho,_⟩:=l.cells a ha;rcases Bn a hb with h|h
  ·rw[ho]at h;cases h
  ·obtain⟨_,o',Bp,_⟩:=ow.cells a h;rw[hf a ha]at Bp;cases Bp
 ·rcases cW.mp ha with h|h
  ·exact .inl (hf a h)
  ·rcases Bn a h with h|h
   ·exact .inl (x1.hh.free h)
   ·exact .inr h
theorem W9 {x1}(hm:Y[i]?=U (.ow k))(h:GC X G Y k i es fs)(hl:es.length<=1000:=by decide):XS X G Y (k+1) (.Return (U (.Tuple es x1 p2)) pos) (Ê (λZ=>(C i Z).bind λ_=>(fs Z).bind λS=>U (.tup S))):=by
 obtain⟨t,pt,lt,qt⟩:=h;refine⟨_,DH (Lf pt),λF0 B F H Z M o E rs e w=>?_⟩;obtain⟨r,h1,h2⟩:=cK e;cases h2;obtain⟨d,h3,h4⟩:=cK h1;obtain⟨S,h5,h6⟩:=cK h4;cases h6;obtain⟨f1,fr,n1,b1,n3,i4,cf,put⟩:=rs.put (F':=F) (H':=H) hm;obtain⟨v,hσ,ow⟩:=i4 d (zl h3);refine qt F0 B F H Z M S _ d v f1 rs (zl h3) hσ ow n1 h5 λvs F1 H1 fp x1 l nd hf=>⟨?_,λp hp=>?_⟩
 ·rw[←l.length,lt _ _ h5];exact ö hl
 ·have x2:=kx.newS x1.fh hp (.tup vs);have r2:=rs.ext (x1.trans x2);refine w _ _ _ fp r2.f0 r2.bh r2.fh r2.nf (.inr (.tup zo (l.mono λ_ _ _ _ o=>o.ext x2))) nd λa ha=>?_;rcases hf a ha with h|h
  ·exact rs.bh.free h
  ·exact b1 a h
def Č (K:cm):V->List V->Hp->VK->Prop:=λx vs H Q=>∃sp p ys,x=.str sp/\vs=[.ref p]/\ir K H p (ys.map V.str)/\(ys.map (·.length)).sum+ys.length*sp.length<=16777216/\Q (.str (PySem.Str.join sp ys)) H
theorem nh:∀{ys:List Str} {us:List cj},dU (ys.map V.str) us->StrsAre us ys
 |[],_,.nil=>.nil
 |y::ys,_,.cons r t=>by obtain⟨tk,rfl⟩:=r;exact .cons y tk (nh t)
theorem Yq:CV X "str.join" (Č X.K):=by intro cn s M H x vs v us Q I rx rv h;obtain⟨sp,p,ys,rfl,rfl,hq,hl,q⟩:=h;obtain⟨tk,rfl⟩:=rx;obtain⟨u,rfl,ru⟩:=rv.one;cases ru;obtain⟨dZ,r,pl,hz⟩:=I.list hq;refine PyProof.Rows.join_list pl.isList (by simpa using nh r) hl λt' k=>⟨.str (PySem.Str.join sp ys),H,I.tok _,⟨t',?_⟩,q⟩;have:PySem.Txt.join sp ys=PySem.Str.join sp ys:=PySem.StrLaws.glued_eq_join sp ys;rw[this]
noncomputable def rJ:List D->Option (List Str)
 |[]=>U []
 |.str i::S=>(rJ S).bind λns=>U (i::ns)
 |_=>L
theorem M8:∀{S:List D} {ns:List Str},rJ S=U ns->S=ns.map .str
 |[],_,e=>by cases e;rfl
 |d::S,ns,e=>by
  cases d with
  |str i=>obtain⟨Y,h1,h2⟩:=cK (show(rJ S).bind _=_ from e);cases h2;rw[M8 h1];rfl
  |_=>cases e
def m7:D->D->Option D
 |.str sp,.lst S=>(rJ S).bind λys=>if(ys.map (·.length)).sum+ys.length*sp.length<=16777216 then U (.str (PySem.Str.join sp ys))else L
 |_,_=>L
theorem PN {F H:Hp}{K:cm}:∀{ys:List Str} {vs:List V},Pr (Al K G F H n) (ys.map D.str) vs->vs=ys.map V.str
 |[],_,.nil=>rfl
 |y::ys,_,.cons h t=>by have q:=Al.scal (F':=F) h rfl;cases q;rw[PN t];rfl
theorem Gb (ho:XE X G Y n o f)(he:XE X G Y m e g)(m6:SE X e []:=by rfl)
  (lR:Ae X o "join":=by rfl)
  (pP:Co X fN [e]:=by rfl)
  (lS:(fQ.endLine==fN.line)=Â:=by rfl) (jQ:pL X fN []:=by rfl) :
  XE X G Y k (.Call (.Attribute o "join" fQ) [e] [] fN) (e2 m7 f g):=by
 obtain⟨ta,pa,qa⟩:=ho;obtain⟨tb,pb,qb⟩:=he;refine⟨_,DM PySem.F.plainAttrs_str PySem.F.slot_str_join PySem.F.type_str_join Yq pa (yj pb wz m6) lR pP lS m6 jQ,λF0 B F H Z M d Q rs e w=>?_⟩;obtain⟨d1,d2,h1,h2,h3⟩:=eL e;refine qa F0 B F H Z M d1 _ rs h1 λv1 F1 H1 x1 l1=>?_;cases d1 with
 |str sp=>
  cases d2 with
  |lst S=>
   obtain⟨ys,h4,h5⟩:=cK (show(rJ S).bind _=_ from h3);by_cases hz:(ys.map (·.length)).sum+ys.length*sp.length<=16777216
   ·rw[if_pos hz]at h5;cases h5;have q1:=Al.scal (F':=F1) l1 rfl;cases q1;refine⟨rfl,qb F0 B F1 H1 Z M _ _ (rs.ext x1) h2 λv2 F2 H2 x2 l2=>?_⟩;obtain⟨p,vs,rfl,hp,GY⟩:=l2.lst x2.fh;rw[M8 h4]at GY;have hv:=PN GY;subst hv;exact⟨sp,p,ys,rfl,rfl,hp,hz,w _ F2 H2 (x1.trans x2) (Al.of (.str _))⟩
   ·rw[if_neg hz]at h5;cases h5
  |_=>cases h3
 |_=>cases h3
variable {kq:Nat}
section
variable {fd:cz}
theorem pO (h:XO X G Y k e f):XO X G Y 0 e f:=XE.ow (XO.sh (n:=0) h)
theorem nv (hN:X.N.Nodup)(ho:i<own:=by decide)(hm:Y[i]?=U (.ow 0):=by rfl)(hi:X.N[i]?=U x:=by rfl)(hx:õ X.env.scope x:=by walk_at "v3")
  (hf:uZ X x:=by walk_at "v2"):Av X G Y own 0 (.Name x pos) (gV i):=WV ho hm hN hi hx hf
theorem p4 (hN:X.N.Nodup)(he:XO X G Y k e f)(hm:Y[i]?=U (.ow k):=by rfl)(hi:X.N[i]?=U x:=by rfl)(hx:õ X.env.scope x:=by walk_at "v3")
  (hs:EO X e x pos' pos:=by rfl)
  (hf:uZ X x:=by walk_at "v2"):XS X G Y rk (.Assign [.Name x pos'] e pos) (Ì i f):=ŵ hm hN hi hx he hs hf
theorem n8 (hN:X.N.Nodup)(hm:Y[i]?=U (.ow 0):=by rfl)(hi:X.N[i]?=U x:=by rfl)(hx:õ X.env.scope x:=by walk_at "v3")
  (hf:uZ X x:=by walk_at "v2"):XG X G Y 0 (.Name x pos) (gV i):=YB hm hN hi hx hf
theorem lz (d:iP X.K X.mg x st ps fa fd)(Fn:dL X.prog X.w X.K X.mg X.base fJ kk fa fd ps (iH X.K G ns rk mf))(hr:fH kq X.A)(ha:XA X G Y (e::es) ns fs)(ox:kk<=kq:=by decide)(hg:Gl X x:=by rfl)
  (nH:kC x:=by decide) (he:SE X e es:=by rfl) (kL:pL X pos es:=by rfl) :
  XO X G Y rk (.Call (.Name x pp) (e::es) [] pos) (λZ=>(fs Z).bind λS=>mf (S++[])) :=
 Hw (ns:=ns) (nd:=[]) (sD:=[]) (by rw[dA];exact Fn) (hr.mono ox) hg d.mgx d.fn.kp d.bd .nil (λ_ _=>.nil) ha nH he kL
theorem ĵ (hi:BA X G Y n tg iter fi)
  (hg:∀cl ϛ fp s₀ H₀,Av (nu X scope cl N ϛ fp s₀ H₀) G (om++i9 Y cap) own n tg gg) (ht:∀cl ϛ fp s₀ H₀,BB (nu X scope cl N ϛ fp s₀ H₀) G (om++i9 Y cap) ifs p) (he:∀cl ϛ fp s₀ H₀,XO (nu X scope cl N ϛ fp s₀ H₀) G (om++i9 Y cap) k pz f)
  (B:oz X scope N own cap:=by exact Lm (by rfl)) (hc:X.calm=Â:=by rfl) (ho:om.length=own:=by rfl) (kU:∀i∈cap,i<Y.length:=by decide)
  (hs:Ao X iter:=by intro _;rfl):XO X G Y (k+1) (.ListComp pz [⟨tg,iter,ifs,0⟩] scope pos) (eJ fi own cap gg p f):=OJ B hc ho kU hi hg ht he hs
theorem dY {i:Int}{j}:XE X G Y 0 (.Constant (.int i) j pos) (eC (.int i)):=ŷ
theorem rL {j}:XE X G Y 0 (.Constant .none j pos) (eC .non):=Ŷ
theorem ky (ha:XE X G Y 0 a f)(hb:XE X G Y 0 b g):XO X G Y 1 (.BinOp a .Add b pos) (e2 dF f g):=Œ YM (YN (by decide) (by decide)) ha hb
theorem iY (ha:XE X G Y 0 a f)(hb:XE X G Y 0 b g)(hp:oW b:=by exactλ_ _=>rfl):XE X G Y 0 (.Subscript a b pos) (e2 dX f g):=Gx (n:=0) Ed Gm ha hb hp
theorem nO (hm:X.mg "len"=L)(ha:XA X G Y [e] [n] fs)(hg:Gl X "len":=by rfl)(he:SE X e []:=by rfl)(kL:pL X pos []:=by rfl):XE X G Y 0 (.Call (.Name "len" pp) [e] [] pos) (eN ee fs):=yu (k:=0) VM YJ hg hm Ž ha (by decide) (by decide) he kL
theorem Ι {P:List cj->Prop}(h:P [])(us:List cj)(e:us.length=0):P us:=by
 cases us with
 |nil=>exact h
 |cons a t=>cases e
theorem ģ {P:List cj->Prop}(h:∀a1,P [a1])(us:List cj)(e:us.length=1):P us:=by
 cases us with
 |nil=>cases e
 |cons a t=>exact Ι (P:=λt=>P (a::t)) (h a) t (Nat.succ.inj e)
theorem ď {P:List cj->Prop}(h:∀a1 a2,P [a1,a2])(us:List cj)(e:us.length=2):P us:=by
 cases us with
 |nil=>cases e
 |cons a t=>exact ģ (P:=λt=>P (a::t)) (h a) t (Nat.succ.inj e)
theorem Ď {P:List cj->Prop}(h:∀a1 a2 a3,P [a1,a2,a3])(us:List cj)(e:us.length=3):P us:=by
 cases us with
 |nil=>cases e
 |cons a t=>exact ď (P:=λt=>P (a::t)) (h a) t (Nat.succ.inj e)
theorem ĉ {P:List cj->Prop}(h:∀a1 a2 a3 a4,P [a1,a2,a3,a4])(us:List cj)(e:us.length=4):P us:=by
 cases us with
 |nil=>cases e
 |cons a t=>exact Ď (P:=λt=>P (a::t)) (h a) t (Nat.succ.inj e)
theorem č {P:List cj->Prop}(h:∀a1 a2 a3 a4 a5,P [a1,a2,a3,a4,a5])(us:List cj)(e:us.length=5):P us:=by
 cases us with
 |nil=>cases e
 |cons a t=>exact ĉ (P:=λt=>P (a::t)) (h a) t (Nat.succ.inj e)
theorem ī {P:List cj->Prop}(h:∀a1 a2 a3 a4 a5 a6,P [a1,a2,a3,a4,a5,a6])(us:List cj)(e:us.length=6):P us:=by
 cases us with
 |nil=>cases e
 |cons a t=>exact č (P:=λt=>P (a::t)) (h a) t (Nat.succ.inj e)
end
inductive Qq where
 |ok (d:D)|xc (d:D)
inductive Ik where
 |ok (o:ý)|xc (Z:Env) (d:D)
abbrev ϓ:=Env->Option Ik
theorem Κ {B:cr}{b:Bool}(h1:yR K B=Â)(h2:Ad K (.ref B)=U (.type "type"))(h3:An K (.ref ϛ) (.ref B)=U b)(h4:An K (.ref B) (.type "BaseException")=U Â):Ac K (.ref ϛ) (.ref B)=U b:=by unfold Ac PySem.W.kitCls;rw[h4,if_pos (by decide)];dsimp only;rw[if_pos,h3];unfold yR at h1;rw[h1,h2];rfl
def Dv (T:Str->Int->Str):V->List V->Hp->VK->Prop:=λx vs H Q=>∃y i,x=.str y/\vs=[.int i]/\PadOk i=Â/\Q (.str (T y i)) H
noncomputable def xL (T:Str->Int->Str):D->D->Option D
 |.str y,.int i=>if PadOk i=Â then U (.str (T y i))else L
 |_,_=>L
theorem Wx:CV X "str.ljust" (Dv Txt.ljust):=by intro cn s M H x vs v us Q I rx rv h;obtain⟨y,i,rfl,rfl,hp,q⟩:=h;obtain⟨tk,rfl⟩:=rx;obtain⟨u,rfl,ru⟩:=rv.one;obtain⟨tu,rfl⟩:=ru;exact PySem.SC.ljust hp λt' k=>⟨.str (Txt.ljust y i),H,I.tok _,⟨t',rfl⟩,q⟩
theorem Wy (ho:XE X G Y n o f)(he:XE X G Y m e g)(m6:SE X e []:=by rfl)
  (lR:Ae X o "ljust":=by rfl)
  (pP:Co X fN [e]:=by rfl)
  (lS:(fQ.endLine==fN.line)=Â:=by rfl) (jQ:pL X fN []:=by rfl) :
  XE X G Y k (.Call (.Attribute o "ljust" fQ) [e] [] fN) (e2 (xL Txt.ljust) f g):=by
 obtain⟨ta,pa,qa⟩:=ho;obtain⟨tb,pb,qb⟩:=he;refine⟨_,DM PySem.F.plainAttrs_str PySem.F.slot_str_ljust PySem.F.type_str_ljust Wx pa (yj pb wz m6) lR pP lS m6 jQ,λF0 B F H Z M d Q rs e w=>?_⟩;obtain⟨d1,d2,h1,h2,h3⟩:=eL e;refine qa F0 B F H Z M d1 _ rs h1 λv1 F1 H1 x1 l1=>?_;cases d1 with
 |str y=>
  cases d2 with
  |int i=>
   have h3:(if PadOk i=Â then U (D.str (Txt.ljust y i))else L)=U d:=h3;by_cases hp:PadOk i=Â
   ·rw[if_pos hp]at h3;cases h3;have q1:=Al.scal (F':=F1) l1 rfl;cases q1;refine⟨rfl,qb F0 B F1 H1 Z M _ _ (rs.ext x1) h2 λv2 F2 H2 x2 l2=>?_⟩;have q2:=Al.scal (F':=F2) l2 rfl;cases q2;exact⟨y,i,rfl,rfl,hp,w _ F2 H2 (x1.trans x2) (Al.of (.str _))⟩
   ·rw[if_neg hp]at h3;cases h3
  |_=>cases h3
 |_=>cases h3
theorem Wz:CV X "str.rjust" (Dv Txt.rjust):=by intro cn s M H x vs v us Q I rx rv h;obtain⟨y,i,rfl,rfl,hp,q⟩:=h;obtain⟨tk,rfl⟩:=rx;obtain⟨u,rfl,ru⟩:=rv.one;obtain⟨tu,rfl⟩:=ru;exact PySem.SC.rjust hp λt' k=>⟨.str (Txt.rjust y i),H,I.tok _,⟨t',rfl⟩,q⟩
theorem WB (ho:XE X G Y n o f)(he:XE X G Y m e g)(m6:SE X e []:=by rfl)
  (lR:Ae X o "rjust":=by rfl)
  (pP:Co X fN [e]:=by rfl)
  (lS:(fQ.endLine==fN.line)=Â:=by rfl) (jQ:pL X fN []:=by rfl) :
  XE X G Y k (.Call (.Attribute o "rjust" fQ) [e] [] fN) (e2 (xL Txt.rjust) f g):=by
 obtain⟨ta,pa,qa⟩:=ho;obtain⟨tb,pb,qb⟩:=he;refine⟨_,DM PySem.F.plainAttrs_str PySem.F.slot_str_rjust PySem.F.type_str_rjust Wz pa (yj pb wz m6) lR pP lS m6 jQ,λF0 B F H Z M d Q rs e w=>?_⟩;obtain⟨d1,d2,h1,h2,h3⟩:=eL e;refine qa F0 B F H Z M d1 _ rs h1 λv1 F1 H1 x1 l1=>?_;cases d1 with
 |str y=>
  cases d2 with
  |int i=>
   have h3:(if PadOk i=Â then U (D.str (Txt.rjust y i))else L)=U d:=h3;by_cases hp:PadOk i=Â
   ·rw[if_pos hp]at h3;cases h3;have q1:=Al.scal (F':=F1) l1 rfl;cases q1;refine⟨rfl,qb F0 B F1 H1 Z M _ _ (rs.ext x1) h2 λv2 F2 H2 x2 l2=>?_⟩;have q2:=Al.scal (F':=F2) l2 rfl;cases q2;exact⟨y,i,rfl,rfl,hp,w _ F2 H2 (x1.trans x2) (Al.of (.str _))⟩
   ·rw[if_neg hp]at h3;cases h3
  |_=>cases h3
 |_=>cases h3
theorem WC:CV X "str.zfill" (Dv Txt.zfill):=by intro cn s M H x vs v us Q I rx rv h;obtain⟨y,i,rfl,rfl,hp,q⟩:=h;obtain⟨tk,rfl⟩:=rx;obtain⟨u,rfl,ru⟩:=rv.one;obtain⟨tu,rfl⟩:=ru;exact PySem.SC.zfill hp λt' k=>⟨.str (Txt.zfill y i),H,I.tok _,⟨t',rfl⟩,q⟩
theorem WD (ho:XE X G Y n o f)(he:XE X G Y m e g)(m6:SE X e []:=by rfl)
  (lR:Ae X o "zfill":=by rfl)
  (pP:Co X fN [e]:=by rfl)
  (lS:(fQ.endLine==fN.line)=Â:=by rfl) (jQ:pL X fN []:=by rfl) :
  XE X G Y k (.Call (.Attribute o "zfill" fQ) [e] [] fN) (e2 (xL Txt.zfill) f g):=by
 obtain⟨ta,pa,qa⟩:=ho;obtain⟨tb,pb,qb⟩:=he;refine⟨_,DM PySem.F.plainAttrs_str PySem.F.slot_str_zfill PySem.F.type_str_zfill WC pa (yj pb wz m6) lR pP lS m6 jQ,λF0 B F H Z M d Q rs e w=>?_⟩;obtain⟨d1,d2,h1,h2,h3⟩:=eL e;refine qa F0 B F H Z M d1 _ rs h1 λv1 F1 H1 x1 l1=>?_;cases d1 with
 |str y=>
  cases d2 with
  |int i=>
   have h3:(if PadOk i=Â then U (D.str (Txt.zfill y i))else L)=U d:=h3;by_cases hp:PadOk i=Â
   ·rw[if_pos hp]at h3;cases h3;have q1:=Al.scal (F':=F1) l1 rfl;cases q1;refine⟨rfl,qb F0 B F1 H1 Z M _ _ (rs.ext x1) h2 λv2 F2 H2 x2 l2=>?_⟩;have q2:=Al.scal (F':=F2) l2 rfl;cases q2;exact⟨y,i,rfl,rfl,hp,w _ F2 H2 (x1.trans x2) (Al.of (.str _))⟩
   ·rw[if_neg hp]at h3;cases h3
  |_=>cases h3
 |_=>cases h3
noncomputable def mT (c n:Nat):Str:=⟨iw n c⟩
def Jr:D->D->Option D
 |.tup S,.int i=>L2.atI S i
 |_,_=>L
theorem Al.tupB {v:V}(h:Al K G F B (n+1) (.tup S) v):∃a vs,v=.ref a/\F a=U (.tup vs)/\Pr (Al K G F B n) S vs:=by
 rcases h with h|h
 ·cases h with
  |tup h1 h2=>exact⟨_,_,rfl,h1,h2.pr.mono λ_ _ q=>Al.of q⟩
 ·cases h with
  |tup h1 h2=>exact⟨_,_,rfl,h1,h2⟩
theorem WE {p3:oj}(hm:Y[i]?=U (.al n))(pA:Y[j]?=U (.al (n+1)))(he:XE X G Y m e g)(hN:X.N.Nodup)(kL:oW e)(hi:X.N[i]?=U x:=by rfl)(hx:õ X.env.scope x:=by walk_at "v3")
  (Q9:X.N[j]?=U y:=by rfl) (RT:sm X.env.scope y:=by walk_at "v1") (hd2:kC y:=by decide) (IE:tI y:=by decide)
  (hs:gQ (.Subscript (.Name y p2) e p3) (U (.Name x p1)) pos.line X.env=pure Ã:=by rfl)
  (hf:uZ X x:=by walk_at "v2"):XS X G Y rk (.Assign [.Name x p1] (.Subscript (.Name y p2) e p3) pos) (Ì i (e2 Jr (C j) g)):=by
 obtain⟨tb,pb,qb⟩:=he;refine⟨_,Le hN hi hx (Lu Ed (xm Q9 RT hd2 IE) pb kL) hs hf,λF0 B F H Z M o E rs e w=>?_⟩;obtain⟨d,h1,h2⟩:=cK e;cases h2;obtain⟨d1,d2,g1,g2,g3⟩:=eL h1;obtain⟨fp,sl,nd,hb⟩:=rs.sl;obtain⟨v1,hσ,Qs⟩:=sl.getA pA (zl g1);refine⟨v1,hσ,qb F0 B F H Z M d2 _ rs g2 λv2 F2 H2 x2 l2=>?_⟩;cases d1 with
 |tup S=>
  cases d2 with
  |int z=>obtain⟨a,vs,rfl,ha,hp⟩:=Qs.tupB;obtain⟨v,k1,k2⟩:=hp.atI g3;have Dx:=rs.ext x2;obtain⟨Bl,Bv,CD,Bm⟩:=Dx.sl;exact .inr (.inl ⟨a,vs,z,v,rfl,l2.int,nG.of (x2.fh _ _ (x2.ff _ _ ha)),k1,w _ F2 H2 ⟨Dx.f0,Dx.bh,Dx.fh,Dx.nf,Bl,Bv.setA (Al.mono x2.ff (dJ.refl _) k2) hm,CD,Bm⟩⟩)
  |_=>cases g3
 |_=>cases g3
theorem nF.prn {K:cm}{F Ϙ:Hp}:∀{ns:List Nat} {S:List D} {vs:List V},nF K G F Ϙ ns S vs->ns.all (λj=>decide (j<=n))=Â->Pr (Al K G F Ϙ n) S vs
 |_,_,_,.nil,_=>.nil
 |_,_,_,.cons h t,e=>by rw[fq,cY]at e;exact .cons (h.up (of_decide_eq_true e.1)) (nF.prn t e.2)
theorem Yr {x1}(h:XA X G Y es ns fs)(yA:ns.all (λj=>decide (j<=n))=Â:=by decide)(hl:es.length<=1000:=by decide):XE X G Y (n+1) (.Tuple es x1 pos) (λZ=>(fs Z).bind λS=>U (.tup S)):=by
 obtain⟨t,pt,lt,qt⟩:=h;refine⟨_,Lf pt,λF0 B F H Z M r Q rs e w=>?_⟩;obtain⟨S,h1,h2⟩:=cK e;cases h2;refine qt F0 B F H Z M S _ rs h1 λvs F1 H1 x1 l=>⟨?_,λp hp=>?_⟩
 ·rw[←l.length',lt _ _ h1];exact ö hl
 ·have x2:=kx.newS x1.fh hp (.tup vs);exact w _ _ _ (x1.trans x2) (.inr (.tup zo ((l.prn yA).mono λ_ _ q=>Al.mono x2.ff x2.hh q)))
noncomputable def ko:D->D->Option D
 |.str y,.str z=>if(z.length==0)=Ã/\y.length<=16777216/\(Txt.split y z).length<=16777216 then U (.lst ((Txt.split y z).map .str))else L
 |_,_=>L
theorem OU {K:cm}{F:Hp}:∀l:List Str,Pr (Dt K G F) (l.map D.str) (l.map V.str)
 |[]=>.nil
 |x::l=>.cons (.str x) (OU l)
theorem Hh (ho:XE X G Y n o f)(he:XE X G Y m e g)(m6:SE X e []:=by rfl)
  (lR:Ae X o "split":=by rfl)
  (pP:Co X fN [e]:=by rfl)
  (lS:(fQ.endLine==fN.line)=Â:=by rfl) (jQ:pL X fN []:=by rfl) :
  XO X G Y 1 (.Call (.Attribute o "split" fQ) [e] [] fN) (e2 ko f g):=by
 obtain⟨ta,pa,qa⟩:=ho;obtain⟨tb,pb,qb⟩:=he;refine⟨_,DM PySem.F.plainAttrs_str PySem.F.slot_str_split PySem.F.type_str_split WM pa (yj pb wz m6) lR pP lS m6 jQ,λF0 B F H Z M d Q rs e w=>?_⟩;obtain⟨d1,d2,h1,h2,h3⟩:=eL e;refine qa F0 B F H Z M d1 _ rs h1 λv1 F1 H1 x1 l1=>?_;cases d1 with
 |str y=>
  cases d2 with
  |str z=>
   have h3:(if(z.length==0)=Ã/\y.length<=16777216/\(Txt.split y z).length<=16777216 then U (D.lst ((Txt.split y z).map .str))else L)=U d:=h3;by_cases hp:(z.length==0)=Ã/\y.length<=16777216/\(Txt.split y z).length<=16777216
   ·rw[if_pos hp]at h3;cases h3;have q1:=Al.scal (F':=F1) l1 rfl;cases q1;refine⟨rfl,qb F0 B F1 H1 Z M _ _ (rs.ext x1) h2 λv2 F2 H2 x2 l2=>?_⟩;have q2:=Al.scal (F':=F2) l2 rfl;cases q2;refine⟨y,z,rfl,rfl,hp.1,by rw[fu];exact hp.2.1,by rw[fu];exact hp.2.2,jt x2.fh (OU _) λv F' H' fp x o nd hf=>w v F' H' fp ((x1.trans x2).trans x) o nd λz hz=>(x1.trans x2).hh.free (hf z hz)⟩
   ·rw[if_neg hp]at h3;cases h3
  |_=>cases h3
 |_=>cases h3
noncomputable def mR:List D->Option D
 |[.str y]=>if y.length<=640 then(PySem.intText? y).bind λi=>U (.int i)else L
 |_=>L
theorem yw:By K G [n] k (λxs H Q=>∃y i,xs=[.str y]/\PySem.intText? y=U i/\y.length<=640/\Q (.int i) H) mR:=by
 intro F H vs S d Q s l e w;cases l with
 |cons h t=>
  cases t;rename_i d0 v0;cases d0 with
  |str y=>
   have e:(if y.length<=640 then(PySem.intText? y).bind λi=>U (D.int i)else L)=U d:=e;by_cases hl:y.length<=640
   ·rw[if_pos hl]at e;obtain⟨i,h1,h2⟩:=cK e;cases h2;exact⟨y,i,by rw[h.str],h1,hl,w _ F H (.refl s) (Al.of (.int i))⟩
   ·rw[if_neg hl]at e;cases e
  |_=>cases e
def t5 (K:cm)(G:Nat->cr)(n m:Nat)(mf:List D->Option D):Sp:=λvs H Q _=>∃(F:Hp) (S es:List D) (us ws:List V) (d p p':D) (a:cr),vs=us ++ .ref a::ws/\S.length=n/\es.length=m/\dJ F H/\Pr (Dt K G F) S us/\Pr (Dt K G F) es ws/\Ow K G F H 1 p (.ref a) [a]/\mf (S++p::es)=U (.tup [d,p']) /\
 ∀v F' H',dJ F F'->(∀x o,H x=U o->x≠a->H' x=U o)->dJ F' H'->(∀x o,H x=U o->mK o->F x=L->F' x=L)->Ow K G F' H' 1 p' (.ref a) [a]->Dt K G F' d v->Q v H'
theorem t5.len (h:n+1+m=ps.length):∀vs H Q E,t5 K G n m mf vs H Q E->vs.length=ps.length:=by rintro vs H Q E ⟨F,S,es,us,ws,d,p,p',a,rfl,hn,hm,_,l,l2,_⟩;rw[←h,←hn,←hm,l.length,l2.length,cV,cB];omega
def ë (n:Nat)(N:List Str)(bf:EM)(S:List D):Option D:=(bf (Ñ N S)).bind λr=>(r.2[n]?).join.bind λp=>U (.tup [r.1,p])
theorem we {w:dP}{fd:cz}{bf:EM}(Fn:ñ K x qual st fa fd)(ϙ:gp N ps (dI st))(AH:n+1+m=ps.length)(Dd:n+1+m+Y.length=N.length)
  (body:∀(a:cr) (jP:cj) (A:dQ) (outer:List PySem.Env) (s:cE) (H:Hp) (E:XK),fH kk (A.deeper (envOfC qual (dI st) s.heap.objs.size fa jP))->tQ (rX fJ P w K mg base N qual (dI st) fa jP A outer s H E).nox G (cy n (Mo.ow 0) ++ .so a::(cy m (Mo.ow 0)++Y)) (gP st) bf) :
  dL P w K mg base fJ (kk+1) fa fd ps (t5 K G n m (ë n N bf)):=by
 refine Fn.ok ϙ (t5.len AH) λjP A outer s H vs Q E hr h=>?_;obtain⟨F,S,es,us,ws,d,p,p',a,rfl,hn,Fc,sF,l,l2,oa,hm,z⟩:=h;subst hn Fc;obtain⟨t,pt,qt⟩:=body a jP A outer s H E hr;refine⟨t,pt,?_⟩;obtain⟨⟨d1,ρ'⟩,h1,h2⟩:=cK hm;obtain⟨p1,h3,h4⟩:=cK h2;cases h4;have LO:=(oa.cells a cg).1;have Sl:dJ F (hid H a):=λy o hy=>by rw[vk (λe=>by rw[e,LO]at hy;cases hy)];exact sF _ _ hy
 refine qt F (hid H a) F H (Ñ N (S++p::es)) ρ' (L2.start N (us ++ .ref a::ws)) d1 _ ⟨.refl _,u9 _ _,sF,λ_ _ _ _ h=>h,[a],?_,by simp,λy hy=>?_⟩ h1 ?_
 ·have e1:Ñ N (S++p::es)=S.map U++(U p::(es.map U++cy Y.length L)):=by unfold Ñ;rw[show N.length-(S++p::es).length=Y.length by rw[cV,cB];omega];simp
  have e2:L2.start N (us ++ .ref a::ws)=us.map U++(U (.ref a)::(ws.map U++cy Y.length L)):=by unfold L2.start;rw[show N.length-(us++V.ref a::ws).length=Y.length by rw[cV,cB,←l.length,←l2.length];omega];simp
  rw[e1,e2];have q2:=SL.app (SL.none (K:=K) (G:=G) (F:=F) (B:=hid H a) (H:=H) Y) (SL.start0 (B:=hid H a) (H:=H) l2);have:=SL.app (.so oa q2) (SL.start0 (B:=hid H a) (H:=H) l);have h7:SL K G F (hid H a) H (cy S.length (Mo.ow 0)++Mo.so a::(cy es.length (Mo.ow 0)++Y)) (S.map U++(U p::(es.map U++cy Y.length L))) (us.map U++(U (.ref a)::(ws.map U++cy Y.length L))) [a]:=by simpa using this
  exact h7
 ·rw[cG.mp hy];exact Lg _ _
 ·intro v σ' F' H' r dt;obtain⟨_,o1,_⟩:=r.so_at (i:=S.length) (ad:=a) (by simp) (zl h3);refine z v F' H' r.f0 (λy o hy n1=>r.bh _ _ (by rw[vk n1];exact hy)) r.fh (λy o hy t hn=>?_) o1 dt;by_cases ea:y=a
  ·subst ea;exact(o1.cells _ cg).1
  exact r.nf y o (by rw[vk ea];exact hy) t hn
section
theorem RS.one {p:D}(rs:RS K G F0 B Y F H Z M)(Rx:Y[i]?=U (.ow 1))(hp:Z[i]?=U (U p))(cp:lT p=Â) :
  ∃a,M[i]?=U (U (.ref a))/\Ow K G F H 1 p (.ref a) [a]/\B a=L /\
   ∀(F' H':Hp) (p':D),dJ F F'->(∀x o,H x=U o->x≠a->H' x=U o)->dJ F' H'->(∀x o,H x=U o->mK o->F x=L->F' x=L)->Ow K G F' H' 1 p' (.ref a) [a]->RS K G F0 B Y F' H' (Z.set i (U p')) M:=by
 obtain⟨f1,fr,n1,b1,dj,i4,cf,put⟩:=rs.put (F':=F) (H':=H) Rx;obtain⟨v,hσ,ow⟩:=i4 p hp;obtain⟨a,rfl,rfl⟩:=ow.cell cp;refine⟨a,hσ,ow,b1 a cg,λF' H' p' s1 kH s3 nf o1=>?_⟩;have Ba:=b1 a cg;have r:=put F' H' p' (.ref a) [a] s1 (λy o hy=>kH y o (rs.bh _ _ hy) λe=>by rw[e,Ba]at hy;cases hy) s3 (λy o hy t hn=>nf y o (rs.bh _ _ hy) t (rs.nf y o hy t hn)) (λy hy=>by
  obtain⟨hn,o,ho,nt⟩:=cf y hy;exact⟨(kH y o ho λe=>dj a cg (e▸hy)).trans ho.symm,nf y o ho nt hn⟩) o1 (by simp) (λy hy=>by
  rw[cG]at hy;subst hy;exact dj _ cg) (λy hy=>by
  rw[cG]at hy;subst hy;exact Ba)
 rw[W8 hσ]at r;exact r
def DV (X:Cx)(G:Nat->cr)(Y:List Mo)(es:List Expr)(g:Env->Option (List D)):Prop:=∃t,PA X es t/\∀(F0 B F H:Hp) (Z:Env) (M:St) (es:List D) (Q:List V->Hp->Prop),RS X.K G F0 B Y F H Z M->g Z=U es->(∀ws F' H',kx F H F' H'->Pr (Dt X.K G F') es ws->Q ws H')->t M H Q
theorem wu:DV X G Y [] Å:=⟨_,wz,λF0 B F H Z M es Q rs e z=>by cases e;exact z [] F H (.refl rs.fh) .nil⟩
theorem xx (h1:XE X G Y 0 a f)(h2:DV X G Y es fs)(hs:SE X a es:=by rfl):DV X G Y (a::es) (Ä f fs):=by obtain⟨t,pt,qt⟩:=h1;obtain⟨t2,tT,tU⟩:=h2;refine⟨_,yj pt tT hs,λF0 B F H Z M S Q rs e z=>?_⟩;obtain⟨d,tJ,g1,g2,g3⟩:=eL e;cases g3;refine qt F0 B F H Z M d _ rs g1 λv F1 H1 x1 l=>?_;exact tU F0 B F1 H1 Z M tJ _ (rs.ext x1) g2 λus F2 H2 x2 l2=>z (v::us) F2 H2 (x1.trans x2) (.cons (Dt.mono x2.ff l) l2)
variable {fd:cz}
end
mutual
inductive KC (K:cm):D->cj->Prop
 |non:KC K .non .none
 |int {i:Int} {t:Tok}:KC K (.int i) (.int i t)
 |str {x:Str} {t:Tok}:KC K (.str x) (.str x t)
 |kt {a:cr} {od:Option cr} {dZ:Array cj} {n:Nat} {sl:Array (Option cj)} {S:List D}:K.lookup a=U ⟨.type "tuple",od,.seq dZ n,sl⟩->dZ.size<=1000->ā K S dZ.toList->KC K (.kt S) (.ref a)
inductive ā (K:cm):List D->List cj->Prop
 |nil:ā K [] []
 |cons {d:D} {u:cj} {S:List D} {us:List cj}:KC K d u->ā K S us->ā K (d::S) (u::us)
end
theorem KC.dt {u:cj}(h:KC K d u):∃v,Í v u/\∀F,Dt K G F d v :=
 KC.rec (motive_1:=λd u _=>∃v,Í v u/\∀F,Dt K G F d v) (motive_2:=λS us _=>∃vs,dU vs us/\∀F,ç K G F S vs) ⟨.non,rfl,λ_=>.non⟩ (λ{i t}=>⟨.int i,⟨t,rfl⟩,λ_=>.int i⟩) (λ{x t}=>⟨.str x,⟨t,rfl⟩,λ_=>.str x⟩)
  (λ{a} _ _ _ _ _ l z _ ⟨vs,r,q⟩=>⟨.ref a,rfl,λF=>.kt ⟨_,_,_,l,rfl,rfl,ö z,r⟩ (q F)⟩) ⟨[],.nil,λ_=>.nil⟩ (λ_ _ ⟨v,r,q⟩ ⟨vs,rs,qs⟩=>⟨v::vs,.cons r rs,λF=>.cons (q F) (qs F)⟩) h
class inductive KL (K:cm):List (Str×D)->List (Str×cj)->Prop
 |nil:KL K [] []
 |cons {k:Str} {d:D} {u:cj} {ts:List (Str×D)} {Ϝ:List (Str×cj)}:KC K d u->KL K ts Ϝ->KL K ((k,d)::ts) ((k,u)::Ϝ)
variable {Ϝ:List (Str×cj)}{ts:List (Str×D)}
theorem KL.look (h:KL K ts Ϝ)(x:Str):(Ϝ.lookup x).isSome=(ts.lookup x).isSome/\∀d,ts.lookup x=U d->∃u,Ϝ.lookup x=U u/\KC K d u:=by
 induction h with
 |nil=>exact⟨rfl,λd e=>by cases e⟩
 |@cons k d u ts Ϝ q t ih=>
  rw[cZ,cZ];cases x==k with
  |true=>exact⟨rfl,λd' e=>by cases e;exact⟨u,rfl,q⟩⟩
  |false=>exact ih
def KG (K:cm)(w:dP)(mg:Str->Option cj)(x:Str)(ts:List (Str×D)):Prop:=∃da Ϝ,KD K w mg x da Ϝ/\KL K ts Ϝ
noncomputable def Dh (ts:List (Str×D)):D->Option D
 |.str k=>ts.lookup k
 |_=>L
noncomputable def sN (neg:Bool)(ts:List (Str×D)):D->Option D
 |.str k=>U (.bl (if neg then !(ts.lookup k).isSome else(ts.lookup k).isSome))
 |_=>L
section
variable {p:oj}
theorem Qa (h:∃u,X.mg x=U u/\KC X.K d u)(hg:Gl X x:=by rfl)(hd:kC x:=by decide):XE X G Y n (.Name x pos) (eC d):=by obtain⟨u,hm,q⟩:=h;obtain⟨v,r,q⟩:=q.dt (G:=G);refine⟨_,KS hg hm r hd,λF0 B F H Z M d' Q rs e w=>?_⟩;cases e;exact w _ F H (.refl rs.fh) (Al.of (q F))
theorem Qb (Ϙ:KG X.K X.w X.mg x ts)(he:XE X G Y n e f)(hg:Gl X x:=by rfl)(hs:Ap e:=by exactλ_ _=>rfl)(hd:kC x:=by decide):XE X G Y k (.Subscript (.Name x p) e pos) (e1 (Dh ts) f):=by
 obtain⟨da,Ϝ,D,l⟩:=Ϙ;obtain⟨t,pt,qt⟩:=he;refine⟨_,Ŕ D hg pt hs hd,λF0 B F H Z M d Q rs e w=>?_⟩;obtain⟨y,h1,h2⟩:=cK e;refine qt F0 B F H Z M y _ rs h1 λv F1 H1 x1 l1=>?_;cases y with
 |str z=>obtain⟨u,h3,h4⟩:=(l.look z).2 d h2;obtain⟨v',r,q⟩:=h4.dt (G:=G);exact⟨z,u,v',l1.str,h3,r,w v' F1 H1 x1 (Al.of (q F1))⟩
 |_=>cases h2
theorem Ys (Ϙ:KG X.K X.w X.mg x ts)(he:XE X G Y n e f)(hg:Gl X x:=by rfl)(hd:kC x:=by decide)(hm:fU .In (.Name x p)=Ã:=by rfl):XT X G Y (.Compare e [.In] [.Name x p] pos) (tb (e1 (sN Ã ts) f)):=by
 obtain⟨da,Ϝ,D,l⟩:=Ϙ;obtain⟨t,pt,qt⟩:=he;refine⟨_,Lc (X2 D hg pt hd) hm,λF0 B F H Z M b Q rs e w=>?_⟩;obtain⟨d,h0,h4⟩:=cK e;obtain⟨y,h1,h2⟩:=cK h0;refine qt F0 B F H Z M y _ rs h1 λv F1 H1 x1 l1=>?_;cases y with
 |str z=>cases h2;cases h4;refine⟨z,l1.str,_,rfl,?_⟩;rw[(l.look z).1];exact w F1 H1 x1
 |_=>cases h2
theorem U7 (Ϙ:KG X.K X.w X.mg x ts)(he:XE X G Y n e f)(hg:Gl X x:=by rfl)(hd:kC x:=by decide)(hm:fU .NotIn (.Name x p)=Ã:=by rfl):XT X G Y (.Compare e [.NotIn] [.Name x p] pos) (tb (e1 (sN Â ts) f)):=by
 obtain⟨da,Ϝ,D,l⟩:=Ϙ;obtain⟨t,pt,qt⟩:=he;refine⟨_,Lc (U5 D hg pt hd) hm,λF0 B F H Z M b Q rs e w=>?_⟩;obtain⟨d,h0,h4⟩:=cK e;obtain⟨y,h1,h2⟩:=cK h0;refine qt F0 B F H Z M y _ rs h1 λv F1 H1 x1 l1=>?_;cases y with
 |str z=>cases h2;cases h4;refine⟨z,l1.str,_,rfl,?_⟩;rw[(l.look z).1];exact w F1 H1 x1
 |_=>cases h2
def Cb:List D->Option (List D)
 |[.lst xs,.kt ys]=>U (oQ xs ys)
 |_=>L
theorem PP {kt:Nat}(hm:X.mg "zip"=L)(ha:XA X G Y [a,b] [0,0] fs)(hg:Gl X "zip":=by rfl)(hs:dD [a,b] X.env=[(Ã,eF a X.env),(Ã,eF b X.env)]:=by rfl)(tS:SN X b:=by rfl) :
  BA X G Y 1 (.Tuple qS kt pt) (.Call (.Name "zip" pp) [a,b] [] pos) (λZ=>(fs Z).bind Cb):=by
 obtain⟨t,pt,_,qt⟩:=ha;refine⟨_,œ hg hm pt hs tS,λF0 B F H Z M S R rs e w=>?_⟩;obtain⟨tJ,h1,h2⟩:=cK e;refine qt F0 B F H Z M _ _ rs h1 λvs F' H' x l=>?_;cases l with
 |cons h t=>
  cases t with
  |cons h' t=>
   cases t;rename_i d v d' v';cases d with
   |lst xs=>
    cases d' with
    |kt ys=>cases h2;obtain⟨a,vs,rfl,ha,hp⟩:=Dt.lst_inv h;obtain⟨b,us,rfl,hb,BH⟩:=Al.kt (n:=0) (Ϙ:=H') h';refine⟨a,b,rfl,⟨vs,us,x.fh.seq ha,.inr hb⟩,w _ F' H' x λi F2 H2 s1 s2 s3=>?_⟩;have hs:ir X.K H2 a vs:=s3.seq (s1.seq ha);have BI:nG X.K H2 b us:=.inr hb;refine⟨λd hd=>?_,λhl=>⟨vs,us,⟨hs,BI⟩,by rw[←hp.pr.length,←BH.length];rw[Kz]at hl;omega⟩⟩;obtain⟨x,y,hx,hy,rfl⟩:=Ky hd;obtain⟨v,hv,l⟩:=hp.pr.get' hx;obtain⟨u,hu,l'⟩:=BH.get' hy;refine⟨⟨vs,us,v,u,⟨hs,BI⟩,hv,hu⟩,λz H3 q=>?_⟩;obtain⟨r,v',u',hr,rfl,rfl,q1,q2⟩:=q;have e1:=q1 vs hs;have e2:=q2 us BI;rw[hv]at e1;rw[hu]at e2;cases e1;cases e2;exact⟨_,kx.newS s3 hr _,.inr (.tup zo (.cons (Dt.mono (s1.trans (wg (s3.free hr) _)) l) (.cons (Dt.mono (s1.trans (wg (s3.free hr) _)) l') .nil)))⟩
    |_=>cases h2
   |_=>cases h2
end
variable {D9:dS}
section
open PySem PySem.Spec L2
open PyProof.Rows hiding St
open PySem.W
noncomputable def oP {α:Type}(f:Str)(y:α):List Str->List α->List α
 |n::ns,v::vs=>if n=f then y::vs else v::oP f y ns vs
 |_,vs=>vs
theorem KA {f:Str}{y:V}:∀{ns:List Str} {vs:List V},ns.length=vs.length->ns.contains f=Â->mS f y (ns.zip vs)=ns.zip (oP f y ns vs)
 |[],_,_,h=>by cases h
 |_::_,[],h,_=>by simp at h
 |n::ns,v::vs,h,hc=>by
  show(if n=f then _ else _)=_;unfold oP;by_cases e:n=f
  ·rw[if_pos e,if_pos e];rfl
  ·rw[if_neg e,if_neg e,gw];show(n,v)::mS f y (ns.zip vs)=_;rw[KA (by simpa using h) (by rw[p5,n9]at hc;exact hc.resolve_left λz=>e (eq_of_beq z).symm)]
theorem N8 {α:Type}{f:Str}{y:α}:∀{ns:List Str} {vs:List α},(oP f y ns vs).length=vs.length
 |[],_=>by unfold oP;rfl
 |_::_,[]=>by unfold oP;rfl
 |n::ns,v::vs=>by
  unfold oP;by_cases e:n=f
  ·rw[if_pos e];rfl
  ·rw[if_neg e,cB,N8,cB]
theorem OV {R:D->V->Prop}{f:Str}{d:D}{y:V}(r:R d y):∀{ns:List Str} {S:List D} {vs:List V},Pr R S vs->Pr R (oP f d ns S) (oP f y ns vs)
 |[],_,_,h=>by unfold oP;exact h
 |_::_,_,_,.nil=>by unfold oP;exact .nil
 |n::ns,_,_,.cons h t=>by
  unfold oP;by_cases e:n=f
  ·rw[if_pos e,if_pos e];exact .cons r t
  ·rw[if_neg e,if_neg e];exact .cons h (OV r t)
def p6 (K:cm)(G:Nat->cr)(Y:List Mo)(i:Nat):Prop:=∀(F0 B F H:Hp) (Z:Env) (M:St) (p:D),RS K G F0 B Y F H Z M->Z[i]?=U (U p)->lT p=Â ->
 ∃a,M[i]?=U (U (.ref a))/\Ow K G F H 1 p (.ref a) [a]/\B a=L /\
  ∀(F' H':Hp) (p':D),dJ F F'->(∀x o,H x=U o->x≠a->H' x=U o)->dJ F' H'->(∀x o,H x=U o->mK o->F x=L->F' x=L)->Ow K G F' H' 1 p' (.ref a) [a]->RS K G F0 B Y F' H' (Z.set i (U p')) M
theorem yW (h:Y[i]?=U (.ow 1)):p6 K G Y i:=λF0 B F H Z M p rs hp hc=>rs.one h hp hc
theorem rW {a:cr}(h:Y[i]?=U (.so a)):p6 K G Y i:=λF0 B F H Z M p rs hp hc=>by obtain⟨fp,sl,nd,hb⟩:=rs.sl;obtain⟨h1,h2,h3,h4⟩:=sl.putS nd h hp;have hB:B a=L:=hb a h3;refine⟨a,h1,h2,hB,λF' H' p' s1 kH s3 nf o1=>⟨rs.f0.trans s1,(λy o hy=>kH y o (rs.bh _ _ hy) λe=>by rw[e,hB]at hy;cases hy),s3,(λy o hy t hn=>nf y o (rs.bh _ _ hy) t (rs.nf y o hy t hn)),fp,h4 F' H' p' s1 (λy hy ne=>?_) o1,nd,hb⟩⟩;obtain⟨hn,o,ho,nt⟩:=sl.cells y hy;exact⟨(kH y o ho ne).trans ho.symm,nf y o ho nt hn⟩
section
def k7 (i:Nat)(cs:List Nat)(x:Str)(f:EF):SF:=λZ=>(f Z).bind λd=>(C i Z).bind λo=>match o with
 |.obj c ns S=>if cs.contains c=Â/\ns.contains x=Â/\ns.length<900 then U (.nx (Z.set i (U (.obj c ns (oP x d ns S)))))else L
 |_=>L
theorem OW {xa dx:cr}{cc:Nat}{ns:List Str}{vs:List V}{y:V}(hF:F xa=L)(hl:ns.length=vs.length)(ol:Pr (Dt K G F) S vs)(l:Dt K G F d y) :
  Ow K G F (upd H xa (.ins (G cc) dx (ns.zip (oP x y ns vs)))) 1 (.obj cc ns (oP x d ns S)) (.ref xa) [xa] :=
 .inr (Aq.obj (vs:=oP x y ns vs) hF zo (by rw[N8];exact hl) (iF.ofPr ((OV l ol).mono λ_ _ q=>⟨q,rfl⟩)))
theorem Gc (hC:p6 X.K G Y i)(hc:∀c∈cs,oU X.K (G c)/\fZ X.K (G c) x)(he:XE X G Y 0 e f)(hN:X.N[i]?=U s:=by rfl)(hv:sm X.env.scope s:=by walk_at "v1")(hd:kC s:=by decide)
  (kW:tI s:=by decide) (hs:gQ e (U (.Attribute (.Name s p1) x pos')) pos.line X.env=pure Ã:=by rfl):XS X G Y rk (.Assign [.Attribute (.Name s p1) x pos'] e pos) (k7 i cs x f):=by
 obtain⟨t,pt,qt⟩:=he;refine⟨_,Pv (xm hN hv hd kW) pt hs,λF0 B F H Z M o E rs e z=>?_⟩;obtain⟨d,h1,h2⟩:=cK e;obtain⟨ob,h3,h4⟩:=cK h2;refine qt F0 B F H Z M d _ rs h1 λy F1 H1 x1 l=>?_;cases ob with
 |obj c ns S=>
  dsimp only at h4;by_cases hz:cs.contains c=Â/\ns.contains x=Â/\ns.length<900
  ·rw[if_pos hz]at h4;cases h4;obtain⟨xa,hσ,ow,hB,put⟩:=hC _ _ _ _ _ _ _ (rs.ext x1) (zl h3) rfl;obtain⟨a,dx,vs,fr,e1,e2,hF,hH,hl,ol⟩:=ow.obj_inv;cases e1;cases e2;have hh:=hc c (by simpa using hz.1);refine⟨_,hσ,xa,_,dx,_,rfl,hH,hh.1,hh.2,by rw[jT,←hl,lZ];omega,?_⟩;rw[KA hl hz.2.1];exact z M F1 _ (put F1 _ _ (.refl _) (λb o h ne=>by rw[zm ne];exact h) (λb o h=>by rw[zm (λe=>by rw[e,hF]at h;cases h)];exact x1.fh _ _ h) (λb o h _ hn=>hn) (OW hF hl (ol.pr λ_ _ _ _ q=>q.1) l))
  ·rw[if_neg hz]at h4;cases h4
 |_=>cases h4
def yF (i:Nat)(cs:List Nat)(x:Str)(f:EF):SF:=λZ=>(C i Z).bind λo=>(f Z).bind λd=>match o,d with
 |.obj c ns S,.int b=>if cs.contains c=Â/\ns.contains x=Â/\ns.length<900 then match (ns.zip S).lookup x with
  |some (.int a)=>U (.nx (Z.set i (U (.obj c ns (oP x (.int (a+b)) ns S)))))
  |_=>L else L
 |_,_=>L
theorem Yt (hC:p6 X.K G Y i)(hc:∀c∈cs,oU X.K (G c)/\fZ X.K (G c) x)(he:XE X G Y 0 e f)(hN:X.N[i]?=U s:=by rfl)(hv:sm X.env.scope s:=by walk_at "v1")(hd:kC s:=by decide)
  (kW:tI s:=by decide):XS X G Y rk (.AugAssign (.Attribute (.Name s p1) x mq) .Add e pos) (yF i cs x f):=by
 obtain⟨t,pt,qt⟩:=he;refine⟨_,VB (xm hN hv hd kW) pt Z9,λF0 B F H Z M o E rs e z=>?_⟩;obtain⟨ob,d,h3,h1,h4⟩:=eL e;cases ob with
 |obj c ns S=>
  cases d with
  |int bi=>
   dsimp only at h4;by_cases hz:cs.contains c=Â/\ns.contains x=Â/\ns.length<900
   ·rw[if_pos hz]at h4;have hh:=hc c (by simpa using hz.1);cases IW:(ns.zip S).lookup x with
    |none=>rw[IW]at h4;cases h4
    |some d1=>
     rw[IW]at h4;cases d1 with
     |int ai=>cases h4;obtain⟨xa,hσ,ow,hB,put⟩:=hC _ _ _ _ _ _ _ rs (zl h3) rfl;obtain⟨a,dx,vs,fr,e1,e2,hF,hH,hl,ol⟩:=ow.obj_inv;cases e1;cases e2;obtain⟨v1,RR,l1⟩:=jq (ol.pr (R':=Dt X.K G F) λ_ _ _ _ q=>q.1) IW;cases l1;refine⟨_,hσ,xa,_,dx,_,_,rfl,hH,hh.1,hh.2,RR,qt F0 B F H Z M _ _ rs h1 λy F1 H1 x1 l=>?_⟩;have ey:=Al.int l;subst ey;refine⟨ai,bi,rfl,rfl,?_⟩;obtain⟨xa',Br,G5,hB',JK⟩:=hC _ _ _ _ _ _ _ (rs.ext x1) (zl h3) rfl;rw[hσ]at Br;cases Br;obtain⟨a,EV,Kc,fr,e1,e2,LV,Q6,BG,R9⟩:=G5.obj_inv;cases e1;cases e2;refine⟨EV,_,Q6,by rw[jT,←BG,lZ];omega,?_⟩;rw[KA BG hz.2.1];exact z M F1 _ (JK F1 _ _ (.refl _) (λb o h ne=>by rw[zm ne];exact h) (λb o h=>by rw[zm (λe=>by rw[e,LV]at h;cases h)];exact x1.fh _ _ h) (λb o h _ hn=>hn) (OW LV BG (R9.pr λ_ _ _ _ q=>q.1) (.int _)))
     |_=>cases h4
   ·rw[if_neg hz]at h4;cases h4
  |_=>cases h4
 |_=>cases h4
variable {fd:cz}
noncomputable def xK (i:Nat)(Z:Env):D->Option (D×Env)
 |.tup [d,p']=>U (d,Z.set i (U p'))
 |_=>L
theorem NC {r:D}(h:xK i Z r=U (d,ρ')):∃p',r=.tup [d,p']/\ρ' = Z.set i (U p'):=by
 unfold xK at h;split at h
 ·cases h;exact⟨_,rfl,rfl⟩
 ·cases h
def pw (i:Nat)(gs:Env->Option (List D))(mf:List D->Option D):EM:=λZ=>(C i Z).bind λp=>(gs Z).bind λes=>if lT p=Â then(mf (p::es)).bind (xK i Z)else L
theorem Lo {F1 H1:Hp}{pd:D}{es:List D}{ws:List V}{a0:cr}{Q:VK}{E:XK}(hC:p6 K G Y i)(rs:RS K G F0 B Y F H Z M)(x1:kx F H F1 H1)(hp:Z[i]?=U (U pd))(hc:lT pd=Â)(hσ:M[i]?=U (U (.ref a0)))(l2:Pr (Dt K G F1) es ws)(hm:es.length=m)
  (h7:(mf (pd::es)).bind (xK i Z)=U (d,ρ')) (z:∀v F' H',RS K G F0 B Y F' H' ρ' M->Dt K G F' d v->Q v H'):t5 K G 0 m mf (.ref a0::ws) H1 Q E:=by
 obtain⟨r,h6,h8⟩:=cK h7;obtain⟨p',rfl,rfl⟩:=NC h8;obtain⟨a,Br,oa,Ba,put⟩:=hC _ _ _ _ _ _ _ (rs.ext x1) hp hc;rw[hσ]at Br;cases Br;exact⟨F1,[],es,[],ws,d,pd,p',a0,rfl,rfl,hm,x1.fh,.nil,l2,oa,h6,λv F' H' s1 kH s3 nf o1 dt=>z v F' H' (put F' H' p' s1 kH s3 nf o1) dt⟩
theorem KB {gs:Env->Option (List D)}(hC:p6 X.K G Y i)(d:iP X.K X.mg x D9 ps fa fd)(Fn:dL X.prog X.w X.K X.mg X.base fJ kk fa fd ps (t5 X.K G 0 m mf))(hr:fH kq X.A)(hn:∀Z S,gs Z=U S->S.length=m)(ha:DV X G Y es gs)(ox:kk<=kq:=by decide)(hg:Gl X x:=by rfl)
  (hN:X.N[i]?=U s:=by rfl) (hv:sm X.env.scope s:=by walk_at "v1") (hd:kC s:=by decide) (kW:tI s:=by decide)
  (nH:kC x:=by decide) (he:dD (.Name s p1::es) X.env=(Ã,eF (.Name s p1) X.env)::dD es X.env:=by rfl) (kL:pL X pos es:=by rfl) :
  XM X G Y (.Call (.Name x pp) (.Name s p1::es) [] pos) (pw i gs mf):=by
 obtain⟨t,pt,qt⟩:=ha;refine⟨_,Hs (mQ:=[]) (E:=E0) Fn (hr.mono ox) hg d.mgx d.fn.kp d.bd .nil oK (yj (xm hN hv hd kW) pt he) nH he kL,λF0 B F H Z ρ' M d Q rs e z=>?_⟩;obtain⟨pd,wL,h1,h2,h3⟩:=eL e;by_cases hc:lT pd=Â
 ·rw[if_pos hc]at h3;obtain⟨a0,hσ,_⟩:=hC _ _ _ _ _ _ _ rs (zl h1) hc;refine⟨_,hσ,qt F0 B F H Z M wL _ rs h2 λws F1 H1 x1 l2=>?_⟩;show t5 X.K G 0 m mf ((V.ref a0::ws)++[]) H1 Q E0;rw[dA];exact Lo hC rs x1 (zl h1) hc hσ l2 (hn _ _ h2) h3 z
 ·rw[if_neg hc]at h3;cases h3
def lq (i c0:Nat)(m:Str)(gs:Env->Option (List D))(mf:List D->Option D):EM:=λZ=>(C i Z).bind λp=>(gs Z).bind λes=>match p with
 |.obj c ns _=>if c=c0/\ns.contains m=Ã then(mf (p::es)).bind (xK i Z)else L
 |_=>L
theorem jw {gs:Env->Option (List D)}{mm qn:Str}(hC:p6 X.K G Y i)(c:oU X.K (G c0))(d:Dm X.K (G c0) mm qn D9 ps fa fd)(Fn:dL X.prog X.w X.K X.mg X.base fJ kk fa fd ps (t5 X.K G 0 m mf))(hr:fH kq X.A)(hn:∀Z S,gs Z=U S->S.length=m)(ha:DV X G Y (e::es) gs)(ox:kk<=kq:=by decide)
  (hN:X.N[i]?=U s:=by rfl) (hv:sm X.env.scope s:=by walk_at "v1") (hd:kC s:=by decide) (kW:tI s:=by decide)
  (m6:SE X e es:=by rfl) (kL:pL X pos es:=by rfl)
  (ht:eF (.Call (.Attribute (.Name s p1) mm fQ) (e::es) [] pos) X.env=(do
   let ov ← eF (.Name s p1) X.env
   kA fQ.atName
   let(f,first) ← f9 [ov] (kI ov mm pl)
   md pos f first (jG pos (dD (e::es) X.env)) (ku pos (gA [] X.env))):=by rfl) :
  XM X G Y (.Call (.Attribute (.Name s p1) mm fQ) (e::es) [] pos) (lq i c0 mm gs mf):=by
 obtain⟨t,pt,qt⟩:=ha;refine⟨_,Oy (mQ:=[]) (E:=E0) (xm hN hv hd kW) c d.me Fn (hr.mono ox) d.bd .nil oK pt m6 kL ht,λF0 B F H Z ρ' M d Q rs e z=>?_⟩;obtain⟨pd,wL,h1,h2,h3⟩:=eL e;cases pd with
 |obj c ns S=>
  dsimp only at h3;by_cases hz:c=c0/\ns.contains mm=Ã
  ·rw[if_pos hz]at h3;obtain⟨rfl,hz⟩:=hz;obtain⟨a0,hσ,oa,_⟩:=hC _ _ _ _ _ _ _ rs (zl h1) rfl;obtain⟨a,dx,vs,fr,e1,e2,hF,hH,hl,ol⟩:=oa.obj_inv;cases e1;refine⟨_,hσ,a0,dx,_,rfl,hH,Hf (vs:=vs) hz,qt F0 B F H Z M wL _ rs h2 λws F1 H1 x1 l2=>?_⟩;show t5 X.K G 0 m mf (V.ref a0::(ws++[])) H1 Q E0;rw[dA];exact Lo hC rs x1 (zl h1) rfl hσ l2 (hn _ _ h2) h3 z
  ·rw[if_neg hz]at h3;cases h3
 |_=>cases h3
def DL (X:Cx)(G:Nat->cr)(m:Nat)(Ϝ:List (Str×cj))(tb:List (Str×(List D->Option D))):Prop:=∀k mf,tb.lookup k=U mf->∃f kk fd ps,Ϝ.lookup k=U (.ref f)/\dL X.prog X.w X.K X.mg X.base fJ kk f fd ps (t5 X.K G 0 m mf)/\fH kk X.A/\fk X.K (.ref f)=Â/\gz X.K fd ps []
theorem Ū:DL X G m Ϝ []:=λk mf h=>by cases h
theorem v4 {tb:List (Str×(List D->Option D))}{k:Str}(hl:Ϝ.lookup k=U (.ref fa))(d:iP X.K X.mg x D9 ps fa fd)(Fn:dL X.prog X.w X.K X.mg X.base fJ kk fa fd ps (t5 X.K G 0 m mf))(hr:fH kq X.A)(t:DL X G m Ϝ tb)(ox:kk<=kq:=by decide):DL X G m Ϝ ((k,mf)::tb):=λk' R4 h=>by
 rw[cZ]at h;cases e:k'==k with
 |true=>rw[e]at h;cases h;rw[eq_of_beq e];exact⟨fa,kk,fd,ps,hl,Fn,hr.mono ox,d.fn.kp,d.bd⟩
 |false=>rw[e]at h;exact t k' R4 h
def qQ (i:Nat)(f:EF)(gs:Env->Option (List D))(tb:List (Str×(List D->Option D))):EM:=λZ=>(f Z).bind λk=>match k with
 |.str z=>(tb.lookup z).bind λmf=>pw i gs mf Z
 |_=>L
theorem Yu {gs:Env->Option (List D)}{p3:oj}{da:cr}{tb:List (Str×(List D->Option D))}(hC:p6 X.K G Y i)(K:KD X.K X.w X.mg x da Ϝ)(hT:DL X G m Ϝ tb)(hk:XE X G Y n c f)(hn:∀Z S,gs Z=U S->S.length=m)(ha:DV X G Y es gs)(hg:Gl X x:=by rfl)(hs:Ap c:=by exactλ_ _=>rfl)
  (hN:X.N[i]?=U s:=by rfl) (hv:sm X.env.scope s:=by walk_at "v1") (hd:kC s:=by decide) (kW:tI s:=by decide)
  (nH:kC x:=by decide) (he:dD (.Name s p1::es) X.env=(Ã,eF (.Name s p1) X.env)::dD es X.env:=by rfl) (kL:pL X pos es:=by rfl) :
  XM X G Y (.Call (.Subscript (.Name x p2) c p3) (.Name s p1::es) [] pos) (qQ i f gs tb):=by
 obtain⟨t,pt,qt⟩:=ha;obtain⟨tk,Sb,Sg⟩:=hk;refine⟨_,ź (F:=λk f sp=>∃mf,tb.lookup k=U mf/\Ϝ.lookup k=U (.ref f)/\sp=t5 X.K G 0 m mf) (E:=E0) K (λk f sp ⟨mf,h1,h2,h3⟩=>?_) oK hg Sb hs (yj (xm hN hv hd kW) pt he) nH he kL,λF0 B F H Z ρ' M d Q rs e z=>?_⟩
 ·obtain⟨f',kk,fd,ps,q1,q2,q3,q4,q5⟩:=hT k mf h1;rw[h2]at q1;cases q1;rw[h3];exact⟨kk,fd,ps,q2,q3,q4,q5⟩
 ·obtain⟨y,h1,h2⟩:=cK e;cases y with
  |str zz=>
   obtain⟨mf,h3,h4⟩:=cK h2;obtain⟨f',kk,fd,ps,q1,q2,q3,q4,q5⟩:=hT zz mf h3;refine Sg F0 B F H Z M _ _ rs h1 λv F1 H1 x1 l1=>⟨zz,f',_,l1.str,q1,⟨mf,h3,q1,rfl⟩,?_⟩;have pG:=rs.ext x1;obtain⟨pd,wL,g1,g2,g3⟩:=eL h4;by_cases hc:lT pd=Â
   ·rw[if_pos hc]at g3;obtain⟨a0,hσ,_⟩:=hC _ _ _ _ _ _ _ pG (zl g1) hc;refine⟨_,hσ,qt F0 B F1 H1 Z M wL _ pG g2 λws F2 H2 x2 l2=>?_⟩;exact Lo hC pG x2 (zl g1) hc hσ l2 (hn _ _ g2) g3 z
   ·rw[if_neg hc]at g3;cases g3
  |_=>cases h2
theorem Hy (he:XM X G Y e gm):tQ X G Y [.Return (U e) pos] gm:=by obtain⟨t,pt,qt⟩:=he;exact⟨_,KU (DH pt),λF0 B F H Z ρ' M d E rs e z=>qt F0 B F H Z ρ' M d _ rs e λv F' H' r l=>z v M F' H' r l⟩
noncomputable def Jy (i:Nat)(g:EM):EM:=λZ=>(g Z).bind λr=>U (r.1,r.2.set i L)
theorem Ĵ {FW:List dS}(hm:Y[i]?=U (.ow k))(h:tQ X G (Y.set i (.ow 0)) FW gm):tQ X G Y FW (Jy i gm):=by obtain⟨t,pt,qt⟩:=h;refine⟨t,pt,λF0 B F H Z ρ' M d E rs e z=>?_⟩;obtain⟨F',r2⟩:=rs.fz hm;obtain⟨⟨d1,ρ1⟩,e1,e2⟩:=cK e;cases e2;refine qt F0 B F' H Z ρ1 M _ E r2 e1 λv σ' F2 H2 r l=>z v σ' F2 H2 ?_ l;have:=r.forget (.ow k) i;rw[M7 hm]at this;exact this
theorem Yv (he:XM X G Y e gm):XS X G Y 0 (.Return (U e) pos) (λZ=>(gm Z).bind λr=>U (.rt r.1)):=by obtain⟨t,pt,qt⟩:=he;refine⟨_,DH pt,λF0 B F H Z M o E rs e z=>?_⟩;obtain⟨⟨d,ρ'⟩,h1,h2⟩:=cK e;cases h2;exact qt F0 B F H Z ρ' M d _ rs h1 λv F' H' r l=>z v F' H' [] r.f0 r.bh r.fh r.nf (Ow.zero l) dz λa z=>(by cases z)
abbrev BM:=Env->Option (Bool×Env)
def ES (X:Cx)(G:Nat->cr)(Y:List Mo)(e:Expr)(g:BM):Prop:=∃t,PT X e t/\∀(F0 B F H:Hp) (Z ρ':Env) (M:St) (b:Bool) (Q:Bool->Hp->Prop),RS X.K G F0 B Y F H Z M->g Z=U (b,ρ')->(∀F' H',RS X.K G F0 B Y F' H' ρ' M->Q b H')->t M H Q
def xI (o:D->D->Option D)(f:EM)(g:EF):BM:=λZ=>(f Z).bind λr=>(g r.2).bind λy=>(o r.1 y).bind λd=>(xB d).bind λb=>U (b,r.2)
theorem Hz {op:Bd}{o:D->D->Option D}(ho:li X (eh op) r)(hs:rV X.K G 0 m k r o)(ha:XM X G Y a gm)(hb:XE X G Y m b g)(hm:fU op b=Ã):ES X G Y (.Compare a [op] [b] pos) (xI o gm g):=by obtain⟨ta,pa,qa⟩:=ha;obtain⟨tb,pb,qb⟩:=hb;refine⟨_,Ox ho pa pb hm,λF0 B F H Z ρ' M b Q rs e w=>?_⟩;obtain⟨⟨d1,ρ1⟩,h1,h2⟩:=cK e;obtain⟨d2,h3,h4⟩:=cK h2;obtain⟨d,h5,h6⟩:=cK h4;obtain⟨b',h7,h8⟩:=cK h6;cases h8;rw[vd h7]at h5;refine qa F0 B F H Z ρ1 M d1 _ rs h1 λx F1 H1 r1 l1=>?_;refine qb F0 B F1 H1 ρ1 M d2 _ r1 h3 λy F2 H2 x2 l2=>?_;exact hs F2 H2 x y d1 d2 _ _ x2.fh (Dt.mono x2.ff l1) l2 h5 λv F3 H3 x3 l=>⟨b,l.bl,w F3 H3 (r1.ext (x2.trans x3))⟩
noncomputable def vV (p:BM)(u w:SF):SF:=λZ=>(p Z).bind λr=>if r.1=Â then u r.2 else w r.2
theorem Gr {yH:List dS}{g:BM}(hc:ES X G Y c g)(h1:vA X G Y rk B2 u)(h2:vA X G Y rk yH w):XS X G Y rk (.If c B2 yH pos) (vV g u w):=by
 obtain⟨t,pt,qt⟩:=hc;obtain⟨t1,zK,zL⟩:=h1;obtain⟨t2,tT,tU⟩:=h2;refine⟨_,P2 pt zK tT,λF0 B F H Z M o E rs e z=>?_⟩;obtain⟨⟨x,ρ1⟩,h1,h2⟩:=cK e;refine qt F0 B F H Z ρ1 M x _ rs h1 λF1 H1 r1=>?_;cases x with
 |true=>rw[if_pos rfl]at h2 ⊢;exact zL F0 B F1 H1 ρ1 M o E r1 h2 z
 |false=>rw[if_neg cI]at h2 ⊢;exact tU F0 B F1 H1 ρ1 M o E r1 h2 z
theorem WF {qn:Str}(ϖ:Dc X.K X.mg x (G c0))(d:Dm X.K (G c0) "__init__" qn D9 ps fa fd)(Fn:dL X.prog X.w X.K X.mg X.base fJ kk fa fd ps (wX X.K G cs [] mi))(hr:fH kq X.A)(xZ:c0∈cs:=by decide)(ox:kk+1<=kq:=by decide)(hg:Gl X x:=by rfl)(nH:kC x:=by decide) :
  XO X G Y 1 (.Call (.Name x pp) [] [] pos) (λ_=>mi c0 []):=by
 refine⟨_,V8 (mQ:=[]) (E:=E0) ⟨ϖ.mks,d.me.at_,d.me.fn,ϖ.kp⟩ Fn (hr.mono ox) hg ϖ.mgx d.bd .nil oK nH,λF0 B F H Z M r Q rs e w y dy hy IJ xG=>?_⟩;have sH:dJ H (hid (upd (upd H dy (.own y)) y (.ins (G c0) dy [])) y):=λb o h=>by have n1:b≠y:=zu h hy;rw[vk n1,zm n1,zm (zu h IJ)];exact h
 refine⟨F,c0,[],r,y,dy,[],xZ,rfl,zo,rs.fh.free hy,rs.fh.trans (sH.trans (u9 _ _)),.nil,e,λF' H' s1 s2 s3 s4 hn ow=>⟨rfl,?_⟩⟩;refine w _ F' H' [y] ⟨s1,sH.trans s2,s3,λb o h t n=>s4 b o (sH _ _ h) t n⟩ ow (by simp) λb z=>?_;rw[cG]at z;subst z;exact hy
end
def DQ (Ϝ:List (Str×cj)):List (Str×cr)->Prop
 |[]=>True
 |(k,f)::t=>Ϝ.lookup k=U (.ref f)/\DQ Ϝ t
def KF (K:cm)(w:dP)(mg:Str->Option cj)(x:Str)(eG:List (Str×cr)):Prop:=∃da Ϝ,KD K w mg x da Ϝ/\DQ Ϝ eG
section
variable {K:Frag}{h:cM}{da:cr}{es:Array DictEntry}{ep:Nat}{w:dP}{eG:List (Str×cr)}{u:cj}
theorem ġ (X:K.In h)(Ϙ:h.Ns dW mg)(a:nsIn K dW x=U (U u))(q:KC K d u):∃u,mg x=U u/\KC K d u:=⟨u,mg_of X Ϙ a,q⟩
theorem ğ (X:K.In h)(Ϙ:h.Ns dW mg)(a:nsIn K dW x=U (U (.ref da)))(l:K.lookup da=U ⟨.type "dict",L,.dict es ep,#[]⟩)(sy:(da==gc)=Ã)(e:EL w es.toList Ϝ)(q:KL K ts Ϝ):KG K w mg x ts:=⟨da,Ϝ,⟨mg_of X Ϙ a,sy,es,ep,l,e⟩,q⟩
theorem Ġ (X:K.In h)(Ϙ:h.Ns dW mg)(a:nsIn K dW x=U (U (.ref da)))(l:K.lookup da=U ⟨.type "dict",L,.dict es ep,#[]⟩)(sy:(da==gc)=Ã)(e:EL w es.toList Ϝ)(q:DQ Ϝ eG):KF K w mg x eG:=⟨da,Ϝ,⟨mg_of X Ϙ a,sy,es,ep,l,e⟩,q⟩
end
end
section
variable {Ϙ:GK}{fd:cz}
theorem SL.atP {v:V}(h:SL K G F B H Y Z M fp):Y[i]?=U (.px v)->Z[i]?=U (U d)->M[i]?=U (U v)/\Al K G F B 1 d v:=by
 induction h generalizing i with
 |nil=>intro e;simp at e
 |no t ih=>intro e e';cases i with
  |zero=>simp at e'
  |succ i=>simpa using ih (by simpa using e) (by simpa using e')
 |al h t ih=>intro e e';cases i with
  |zero=>simp at e
  |succ i=>simpa using ih (by simpa using e) (by simpa using e')
 |so h t ih=>intro e e';cases i with
  |zero=>simp at e
  |succ i=>simpa using ih (by simpa using e) (by simpa using e')
 |ow h t ih=>intro e e';cases i with
  |zero=>simp at e
  |succ i=>simpa using ih (by simpa using e) (by simpa using e')
 |px h t ih=>intro e e';cases i with
  |zero=>simp at e e';subst e;subst e';exact⟨rfl,h⟩
  |succ i=>simpa using ih (by simpa using e) (by simpa using e')
end
section
variable {a b c d e f g h i j k l m n o p q r s t x:Option D}{z:Env}
@[simp 2000] theorem Ψ:C 0 (a::z)=a:=rfl
@[simp 2000] theorem ϒ:fG (a::z) 0 x=x::z:=rfl
@[simp 2000] theorem Χ:C 1 (a::b::z)=b:=rfl
@[simp 2000] theorem ϑ:fG (a::b::z) 1 x=a::x::z:=rfl
@[simp 2000] theorem Φ:C 2 (a::b::c::z)=c:=rfl
@[simp 2000] theorem ϐ:fG (a::b::c::z) 2 x=a::b::x::z:=rfl
@[simp 2000] theorem Υ:C 3 (a::b::c::d::z)=d:=rfl
@[simp 2000] theorem Ϗ:fG (a::b::c::d::z) 3 x=a::b::c::x::z:=rfl
@[simp 2000] theorem Τ:C 4 (a::b::c::d::e::z)=e:=rfl
@[simp 2000] theorem ώ:fG (a::b::c::d::e::z) 4 x=a::b::c::d::x::z:=rfl
@[simp 2000] theorem Ρ:C 5 (a::b::c::d::e::f::z)=f:=rfl
@[simp 2000] theorem ύ:fG (a::b::c::d::e::f::z) 5 x=a::b::c::d::e::x::z:=rfl
@[simp 2000] theorem Ο:C 6 (a::b::c::d::e::f::g::z)=g:=rfl
@[simp 2000] theorem ό:fG (a::b::c::d::e::f::g::z) 6 x=a::b::c::d::e::f::x::z:=rfl
@[simp 2000] theorem Ξ:C 7 (a::b::c::d::e::f::g::h::z)=h:=rfl
@[simp 2000] theorem ϋ:fG (a::b::c::d::e::f::g::h::z) 7 x=a::b::c::d::e::f::g::x::z:=rfl
@[simp 2000] theorem Ν:C 8 (a::b::c::d::e::f::g::h::i::z)=i:=rfl
@[simp 2000] theorem ϊ:fG (a::b::c::d::e::f::g::h::i::z) 8 x=a::b::c::d::e::f::g::h::x::z:=rfl
@[simp 2000] theorem Μ:C 9 (a::b::c::d::e::f::g::h::i::j::z)=j:=rfl
@[simp 2000] theorem Ω:fG (a::b::c::d::e::f::g::h::i::j::z) 9 x=a::b::c::d::e::f::g::h::i::x::z:=rfl
@[simp 2000] theorem QH:C 10 (a::b::c::d::e::f::g::h::i::j::k::z)=k:=rfl
@[simp 2000] theorem Qx:fG (a::b::c::d::e::f::g::h::i::j::k::z) 10 x=a::b::c::d::e::f::g::h::i::j::x::z:=rfl
@[simp 2000] theorem QI:C 11 (a::b::c::d::e::f::g::h::i::j::k::l::z)=l:=rfl
@[simp 2000] theorem Qy:fG (a::b::c::d::e::f::g::h::i::j::k::l::z) 11 x=a::b::c::d::e::f::g::h::i::j::k::x::z:=rfl
@[simp 2000] theorem QJ:C 12 (a::b::c::d::e::f::g::h::i::j::k::l::m::z)=m:=rfl
@[simp 2000] theorem Qz:fG (a::b::c::d::e::f::g::h::i::j::k::l::m::z) 12 x=a::b::c::d::e::f::g::h::i::j::k::l::x::z:=rfl
@[simp 2000] theorem QK:C 13 (a::b::c::d::e::f::g::h::i::j::k::l::m::n::z)=n:=rfl
@[simp 2000] theorem QA:fG (a::b::c::d::e::f::g::h::i::j::k::l::m::n::z) 13 x=a::b::c::d::e::f::g::h::i::j::k::l::m::x::z:=rfl
@[simp 2000] theorem QL:C 14 (a::b::c::d::e::f::g::h::i::j::k::l::m::n::o::z)=o:=rfl
@[simp 2000] theorem QB:fG (a::b::c::d::e::f::g::h::i::j::k::l::m::n::o::z) 14 x=a::b::c::d::e::f::g::h::i::j::k::l::m::n::x::z:=rfl
@[simp 2000] theorem QM:C 15 (a::b::c::d::e::f::g::h::i::j::k::l::m::n::o::p::z)=p:=rfl
@[simp 2000] theorem QC:fG (a::b::c::d::e::f::g::h::i::j::k::l::m::n::o::p::z) 15 x=a::b::c::d::e::f::g::h::i::j::k::l::m::n::o::x::z:=rfl
@[simp 2000] theorem QN:C 16 (a::b::c::d::e::f::g::h::i::j::k::l::m::n::o::p::q::z)=q:=rfl
@[simp 2000] theorem QD:fG (a::b::c::d::e::f::g::h::i::j::k::l::m::n::o::p::q::z) 16 x=a::b::c::d::e::f::g::h::i::j::k::l::m::n::o::p::x::z:=rfl
@[simp 2000] theorem QO:C 17 (a::b::c::d::e::f::g::h::i::j::k::l::m::n::o::p::q::r::z)=r:=rfl
@[simp 2000] theorem QE:fG (a::b::c::d::e::f::g::h::i::j::k::l::m::n::o::p::q::r::z) 17 x=a::b::c::d::e::f::g::h::i::j::k::l::m::n::o::p::q::x::z:=rfl
@[simp 2000] theorem QP:C 18 (a::b::c::d::e::f::g::h::i::j::k::l::m::n::o::p::q::r::s::z)=s:=rfl
@[simp 2000] theorem QF:fG (a::b::c::d::e::f::g::h::i::j::k::l::m::n::o::p::q::r::s::z) 18 x=a::b::c::d::e::f::g::h::i::j::k::l::m::n::o::p::q::r::x::z:=rfl
@[simp 2000] theorem QQ:C 19 (a::b::c::d::e::f::g::h::i::j::k::l::m::n::o::p::q::r::s::t::z)=t:=rfl
@[simp 2000] theorem QG:fG (a::b::c::d::e::f::g::h::i::j::k::l::m::n::o::p::q::r::s::t::z) 19 x=a::b::c::d::e::f::g::h::i::j::k::l::m::n::o::p::q::r::s::x::z:=rfl
end
section
variable {fd:cz}
noncomputable def BQ (p:BM):BM:=λZ=>(p Z).bind λr=>U (!r.1,r.2)
theorem Yw {g:BM}(ha:ES X G Y a g):ES X G Y (.UnaryOp .Not a pos) (BQ g):=by obtain⟨t,pt,qt⟩:=ha;refine⟨_,Po pt,λF0 B F H Z ρ' M r Q rs e w=>?_⟩;obtain⟨⟨x,ρ1⟩,h1,h2⟩:=cK e;cases h2;exact qt F0 B F H Z ρ1 M x _ rs h1 λF1 H1 r1=>w F1 H1 r1
def mB (f:EM):BM:=λZ=>(f Z).bind λr=>(xB r.1).bind λb=>U (b,r.2)
theorem Yx (he:XM X G Y e gm)(hi:∀whole,wJ e X.env whole=(do let v ← whole;kA e.pos;f9 [v] (truthy v)):=by intro _;rfl):ES X G Y e (mB gm):=by obtain⟨t,pt,qt⟩:=he;refine⟨_,Pn pt hi,λF0 B F H Z ρ' M b Q rs e w=>?_⟩;obtain⟨⟨d,ρ1⟩,h1,h2⟩:=cK e;obtain⟨b',h3,h4⟩:=cK h2;cases h4;have h3:xB d=U b:=h3;rw[vd h3]at h1;exact qt F0 B F H Z ρ1 M _ _ rs h1 λv F' H' r l=>⟨b,Al.bl (n:=0) (Ϙ:=H') l,w F' H' r⟩
noncomputable def p9 (gm:EM)(gs:Env->Option (List D))(mf:List D->Option D):EM:=λZ=>(gm Z).bind λr=>(gs r.2).bind λes=>(mf (r.1::es)).bind λd=>U (d,r.2)
theorem N9 {gs:Env->Option (List D)}(d:iP X.K X.mg x D9 ps fa fd)(Fn:dL X.prog X.w X.K X.mg X.base fJ kk fa fd ps (iH X.K G (n::ns) rk mf))(hr:fH kq X.A)(ha:XM X G Y a gm)(hb:XA X G Y es ns gs)(ox:kk<=kq:=by decide)(hg:Gl X x:=by rfl)
  (nH:kC x:=by decide) (he:SE X a es:=by rfl) (kL:pL X pos es:=by rfl) :
  XM X G Y (.Call (.Name x pp) (a::es) [] pos) (p9 gm gs mf):=by
 obtain⟨t1,zK,zL⟩:=ha;obtain⟨t,pt,_,qt⟩:=hb;refine⟨_,Hs (mQ:=[]) (E:=E0) Fn (hr.mono ox) hg d.mgx d.fn.kp d.bd .nil oK (yj zK pt he) nH he kL,λF0 B F H Z ρ' M d Q rs e z=>?_⟩;obtain⟨⟨d1,ρ1⟩,h1,h2⟩:=cK e;obtain⟨wL,h3,h4⟩:=cK h2;obtain⟨d',h5,h6⟩:=cK h4;cases h6;refine zL F0 B F H Z ρ1 M d1 _ rs h1 λv1 F1 H1 r1 l1=>?_;refine qt F0 B F1 H1 ρ1 M wL _ r1 h3 λws F2 H2 x2 l2=>?_;show iH X.K G (n::ns) rk mf ((v1::ws)++[]) H2 Q E0;rw[dA];exact⟨F2,d1::wL,_,x2.fh,.cons (Al.of (Dt.mono x2.ff l1)) l2,h5,λv F3 H3 fp x3 ow nd hf=>by obtain⟨F4,x4,dt⟩:=ow.freeze x3 hf;exact z v F4 H3 (r1.ext (x2.trans x4)) dt⟩
def CU (K:cm)(G:Nat->cr)(pm:List Nat)(mf:List D->Option D):Sp:=λvs H Q _=>∃(F:Hp) (es:List D) (ws:List V) (d p p':D) (a:cr),vs=.ref a::ws/\dJ F H/\nF K G F (hid H a) pm es ws/\Ow K G F H 1 p (.ref a) [a]/\mf (p::es)=U (.tup [d,p']) /\
 ∀v F' H',dJ F F'->(∀x o,H x=U o->x≠a->H' x=U o)->dJ F' H'->(∀x o,H x=U o->mK o->F x=L->F' x=L)->Ow K G F' H' 1 p' (.ref a) [a]->Dt K G F' d v->Q v H'
theorem CU.len (h:1+pm.length=ps.length):∀vs H Q E,CU K G pm mf vs H Q E->vs.length=ps.length:=by rintro vs H Q E ⟨F,es,ws,d,p,p',a,rfl,_,l,_⟩;rw[←h,cB,l.length,wG]
theorem VW {w:dP}{bf:EM}(Fn:ñ K x qual st fa fd)(ϙ:gp N ps (dI st))(AH:1+pm.length=ps.length)(Dd:1+Y.length=N.length)(ox:pm.length<=Y.length)
  (AG:∀(i n:Nat),pm[i]?=U n->Y[i]?=U (Mo.al n)\/(n=0/\Y[i]?=U (Mo.ow 0)))
  (body:∀(a:cr) (jP:cj) (A:dQ) (outer:List PySem.Env) (s:cE) (H:Hp) (E:XK),fH kk (A.deeper (envOfC qual (dI st) s.heap.objs.size fa jP))->tQ (rX fJ P w K mg base N qual (dI st) fa jP A outer s H E).nox G (.so a::Y) (gP st) bf) :
  dL P w K mg base fJ (kk+1) fa fd ps (CU K G pm (ë 0 N bf)):=by
 refine Fn.ok ϙ (CU.len AH) λjP A outer s H vs Q E hr h=>?_;obtain⟨F,es,ws,d,p,p',a,rfl,sF,l,oa,hm,z⟩:=h;obtain⟨t,pt,qt⟩:=body a jP A outer s H E hr;refine⟨t,pt,?_⟩;obtain⟨⟨d1,ρ'⟩,h1,h2⟩:=cK hm;obtain⟨p1,h3,h4⟩:=cK h2;cases h4;have LO:=(oa.cells a cg).1;refine qt F (hid H a) F H (Ñ N (p::es)) ρ' (L2.start N (.ref a::ws)) d1 _ ⟨.refl _,u9 _ _,sF,λ_ _ _ _ h=>h,[a],?_,by simp,λy hy=>?_⟩ h1 ?_
 ·have e1:=l.length;have e2:=l.length';unfold Ñ L2.start;rw[cB,cB,e2];exact .so oa (SL.start _ l AG (by omega))
 ·rw[cG.mp hy];exact Lg _ _
 ·intro v σ' F' H' r dt;obtain⟨_,o1,_⟩:=r.so_at (i:=0) (ad:=a) rfl (zl h3);refine z v F' H' r.f0 (λy o hy n1=>r.bh _ _ (by rw[vk n1];exact hy)) r.fh (λy o hy t hn=>?_) o1 dt;by_cases ea:y=a
  ·subst ea;exact(o1.cells _ cg).1
  exact r.nf y o (by rw[vk ea];exact hy) t hn
noncomputable def uA:List Nat->List D->Bool
 |0::ns,_::S=>uA ns S
 |1::ns,.lst _::S=>uA ns S
 |[],[]=>Â
 |_,_=>Ã
noncomputable def BN:D->Bool
 |.obj _ _ _=>Â
 |_=>Ã
theorem nF.hid {a:cr}(ha:∀xs,H a≠U (.lst xs)){vs:List V}(h:nF K G F H ns S vs):uA ns S=Â->nF K G F (hid H a) ns S vs:=by
 induction h with
 |nil=>exactλ_=>.nil
 |@cons n d v ns S vs h t ih=>
  intro e;cases n with
  |zero=>exact .cons h (ih e)
  |succ n=>
   cases n with
   |zero=>
    cases d with
    |lst xs=>
     refine .cons ?_ (ih e);rcases h with h|h
     ·exact .inl h
     ·cases h with
      |lst hb q=>exact .inr (.lst (by rw[vk (λe=>ha _ (e▸hb))];exact hb) q)
    |_=>cases e
   |succ n=>cases e
def qR (i:Nat)(ns:List Nat)(gs:Env->Option (List D))(mf:List D->Option D):EM:=λZ=>(C i Z).bind λp=>(gs Z).bind λes=>if BN p=Â/\uA ns es=Â then(mf (p::es)).bind (xK i Z)else L
theorem ND {gs:Env->Option (List D)}(hC:p6 X.K G Y i)(d:iP X.K X.mg x D9 ps fa fd)(Fn:dL X.prog X.w X.K X.mg X.base fJ kk fa fd ps (CU X.K G ns mf))(hr:fH kq X.A)(ha:XA X G Y es ns gs)(ox:kk<=kq:=by decide)(hg:Gl X x:=by rfl)
  (hN:X.N[i]?=U s:=by rfl) (hv:sm X.env.scope s:=by walk_at "v1") (hd:kC s:=by decide) (kW:tI s:=by decide)
  (nH:kC x:=by decide) (he:dD (.Name s p1::es) X.env=(Ã,eF (.Name s p1) X.env)::dD es X.env:=by rfl) (kL:pL X pos es:=by rfl) :
  XM X G Y (.Call (.Name x pp) (.Name s p1::es) [] pos) (qR i ns gs mf):=by
 obtain⟨t,pt,hl,qt⟩:=ha;refine⟨_,Hs (mQ:=[]) (E:=E0) Fn (hr.mono ox) hg d.mgx d.fn.kp d.bd .nil oK (yj (xm hN hv hd kW) pt he) nH he kL,λF0 B F H Z ρ' M d Q rs e z=>?_⟩;obtain⟨pd,wL,h1,h2,h3⟩:=eL e;by_cases hc:BN pd=Â/\uA ns wL=Â
 ·rw[if_pos hc]at h3;have sJ:lT pd=Â:=by
   cases pd with
   |obj _ _ _=>rfl
   |_=>cases hc.1
  obtain⟨a0,hσ,_⟩:=hC _ _ _ _ _ _ _ rs (zl h1) sJ;refine⟨_,hσ,qt F0 B F H Z M wL _ rs h2 λws F1 H1 x1 l2=>?_⟩;show CU X.K G ns mf ((V.ref a0::ws)++[]) H1 Q E0;rw[dA];obtain⟨r,h6,h8⟩:=cK h3;obtain⟨p',rfl,rfl⟩:=NC h8;obtain⟨a,Br,oa,Ba,put⟩:=hC _ _ _ _ _ _ _ (rs.ext x1) (zl h1) sJ;rw[hσ]at Br;cases Br;refine⟨F1,wL,ws,d,pd,p',a0,rfl,x1.fh,l2.hid (λxs q=>?_) hc.2,oa,h6,λv F' H' s1 kH s3 nf o1 dt=>z v F' H' (put F' H' p' s1 kH s3 nf o1) dt⟩;cases pd with
  |obj c FG tJ=>obtain⟨_,dx,vs,fr,e1,e2,hF,hH,_⟩:=oa.obj_inv;cases e1;rw[hH]at q;cases q
  |_=>cases hc.1
 ·rw[if_neg hc]at h3;cases h3
end
noncomputable def sR:List Mo->Bool
 |[]=>Â
 |.ow _::Y=>sR Y
 |_=>Ã
section
variable {B1:Hp}{b:cr}
theorem SL.any (h:SL K G F B H Y Z M fp):sR Y=Â->SL K G F B1 H Y Z M fp:=by
 induction h with
 |nil=>exactλ_=>.nil
 |@no m _ _ _ _ _ t ih=>intro e;cases m with
  |ow n=>exact .no (ih e)
  |_=>cases e
 |al h t ih=>intro e;cases e
 |px h t ih=>intro e;cases e
 |so h t ih=>intro e;cases e
 |ow h t ih=>exactλe=>.ow h (ih e)
theorem SL.lendF (h:SL K G F B H Y Z M fp):∀{j:Nat},sR Y=Â->Y[j]?=U (.ow 1)->Z[j]?=U (U d)->lT d=Â->M[j]?=U (U (.ref b))->Al K G F B1 1 d (.ref b)->fp.Nodup ->
  ∃fr,SL K G F B1 H (Y.set j (.px (.ref b))) Z M fr/\fr.Nodup/\b∉fr/\(∀x∈fr,x∈fp)/\b∈fp:=by
 induction h with
 |nil=>intro j _ e;simp at e
 |@no m _ _ _ _ _ t ih=>
  intro j eo em er hc es al nd;cases m with
  |ow n=>
   cases j with
   |zero=>simp at er
   |succ j=>obtain⟨fr,h1,h2⟩:=ih eo (by simpa using em) (by simpa using er) hc (by simpa using es) al nd;exact⟨fr,.no h1,h2⟩
  |_=>cases eo
 |al h t ih=>intro j e;cases e
 |px h t ih=>intro j e;cases e
 |so h t ih=>intro j e;cases e
 |@ow n d1 v1 Y Z M f fp h t ih=>
  intro j eo em er hc es al nd;cases j with
  |zero=>simp at em er es;subst em er es;obtain⟨a,e1,e2⟩:=h.cell hc;cases e1;subst e2;have nd:=dG.mp nd;exact⟨fp,.px al (t.any eo),nd.2,nd.1,λx z=>ck _ z,cg⟩
  |succ j=>
   obtain⟨n1,n2,n3⟩:=cT.mp nd;obtain⟨fr,h1,h2,h3,h4,h5⟩:=ih eo (by simpa using em) (by simpa using er) hc (by simpa using es) al n2;refine⟨f++fr,.ow h h1,cT.mpr ⟨n1,h2,λx hx y hy=>n3 x hx y (h4 y hy)⟩,λz=>?_,λx z=>?_,cC _ h5⟩
   ·exact(cW.mp z).elim (λz=>n3 b z b h5 rfl) h3
   ·rcases cW.mp z with z|z
    ·exact c7 _ z
    ·exact cC _ (h4 x z)
theorem SL.lendB:∀{Y:List Mo} {Z:Env} {M:St} {fr:List cr} {j:Nat},SL K G F B1 H (Y.set j (.px (.ref b))) Z M fr->sR Y=Â->Y[j]?=U (.ow 1)->(∀d,Al K G F B1 1 d (.ref b)->Ow K G F H 1 d (.ref b) [b])->fr.Nodup->b∉fr ->
  ∃fp,SL K G F B H Y Z M fp/\fp.Nodup/\∀x∈fp,x=b\/x∈fr
 |[],_,_,_,_,_,_,em,_,_,_=>by simp at em
 |.ow n::Y,_,_,_,0,h,eo,em,k,nd,hb=>by
  simp at em;subst em;rw[List.set_cons_zero]at h;cases h with
  |no t=>exact⟨_,.no (t.any eo),nd,λx z=>.inr z⟩
  |px al t=>exact⟨_,.ow (k _ al) (t.any eo),dG.mpr ⟨hb,nd⟩,λx z=>cu.mp z⟩
 |.ow n::Y,_,_,_,j+1,h,eo,em,k,nd,hb=>by
  rw[List.set_cons_succ]at h;cases h with
  |no t=>obtain⟨fp,h1,h2,h3⟩:=SL.lendB t eo (by simpa using em) k nd hb;exact⟨fp,.no h1,h2,h3⟩
  |@ow _ _ _ _ _ _ f fp h t=>
   obtain⟨n1,n2,n3⟩:=cT.mp nd;obtain⟨lL,h1,h2,h3⟩:=SL.lendB t eo (by simpa using em) k n2 λz=>hb (cC _ z);refine⟨f++lL,.ow h h1,cT.mpr ⟨n1,h2,λx hx y hy=>(h3 y hy).elim (λe q=>hb (c7 _ (by rw[←e,←q];exact hx))) (n3 x hx y)⟩,λx z=>?_⟩;rcases cW.mp z with z|z
   ·exact .inr (c7 _ z)
   ·exact(h3 x z).imp id (cC _)
 |.al _::_,_,_,_,_,_,eo,_,_,_,_=>by cases eo
 |.px _::_,_,_,_,_,_,eo,_,_,_,_=>by cases eo
 |.so _::_,_,_,_,_,_,eo,_,_,_,_=>by cases eo
theorem Ul {MH:List V}(fb:F b=L)(hb:H b=U (.lst MH))(bb:B1 b=U (.lst MH))(kb:K.lookup b=L)(h:Al K G F B1 1 d (.ref b)):Ow K G F H 1 d (.ref b) [b]:=by
 have rd:∀u,¬Rd F b u:=λu q=>q.elim (λq=>by rw[fb]at q;cases q) λ⟨o,q⟩=>by rw[fb]at q;cases q
 have nk:∀o,K.lookup b≠U o:=λo q=>by rw[kb]at q;cases q
 rcases h with h|h
 ·exfalso;cases h with
  |lst q _=>exact q.elim (rd _) λ⟨o,_,_,q,_⟩=>nk o q
  |tup q _=>rw[fb]at q;cases q
  |dK q _ _=>rw[fb]at q;cases q
  |dT q _ _=>exact rd _ q
  |obj q _ _=>rw[fb]at q;cases q
  |exc0 q=>rw[fb]at q;cases q
  |exc q _ _ _=>rw[fb]at q;cases q
  |kt q _=>obtain⟨o,_,_,q,_⟩:=q;exact nk o q
 ·cases h with
  |lst q l=>rw[bb]at q;cases q;exact .inr (.lst fb hb (iF.ofPr (l.mono λ_ _ q=>⟨q,rfl⟩)))
  |tup q _=>rw[fb]at q;cases q
  |dK q _ _=>rw[bb]at q;cases q
  |dT q _ _=>exact q.elim (λq=>by rw[bb]at q;cases q) λ⟨o,q⟩=>by rw[bb]at q;cases q
  |obj q _ _=>rw[bb]at q;cases q
end
noncomputable def vW (j:Nat)(u:SF):SF:=λZ=>match Z[j]? with
 |some (U (.lst _))=>u Z
 |_=>L
theorem Yy (j:Nat)(h:∀b,XS X G (Y.set j (.px (.ref b))) rk st u)(ho:sR Y=Â:=by rfl)(hm:Y[j]?=U (.ow 1):=by rfl):XS X G Y rk st (vW j u):=by
 refine⟨λE M H=>(∀b o,X.K.lookup b=U o->H b=L)->∃b,M[j]?=U (U (.ref b))/\(h b).choose E M H,λcn s M H D I ht=>?_,λF0 B F H Z M o E rs e z hK=>?_⟩
 ·obtain⟨b,_,hq⟩:=ht λb o e=>(I.bs b o (I.mod.kin b o e)).2;exact(h b).choose_spec.1 cn s M H D I hq
 ·unfold vW at e;split at e
  ·next S hρ=>
   obtain⟨b,hσ,ow,Bb,_⟩:=rs.one hm hρ rfl;obtain⟨_,vs,fr0,e1,e2,hF,hH,ol⟩:=ow.lst_inv;cases e1;have e0:=ol.nil0;subst e0;have ol:Pr (Dt X.K G F) S vs:=ol.pr λ_ _ _ _ q=>q.1;have DR:upd B b (.lst vs) b=U (.lst vs):=zo;obtain⟨fp,sl,nd,hb⟩:=rs.sl;obtain⟨fr,Sr,JB,nb,sub,_⟩:=sl.lendF (B1:=upd B b (.lst vs)) ho hm hρ rfl hσ (.inr (.lst DR ol)) nd;have Qj:F0 b=L:=by
    cases q:F0 b with
    |none=>rfl
    |some o=>rw[rs.f0 _ _ q]at hF;cases hF
   have kb:X.K.lookup b=L:=by
    cases q:X.K.lookup b with
    |none=>rfl
    |some o=>rw[hK b o q]at hH;cases hH
   have Bu:∀x o,B x=U o->upd B b (.lst vs) x=U o:=λx o q=>by rw[zm (λe:x=b=>by rw[e,Bb]at q;cases q)];exact q
   have pG:RS X.K G F0 (upd B b (.lst vs)) (Y.set j (.px (.ref b))) F H Z M:=⟨rs.f0,λx o q=>by
    by_cases ex:x=b
    ·subst ex;rw[zo]at q;cases q;exact hH
    ·rw[zm ex]at q;exact rs.bh _ _ q,rs.fh,λx o q t hn=>by
    by_cases ex:x=b
    ·subst ex;exact hF
    ·rw[zm ex]at q;exact rs.nf x o q t hn,fr,Sr,JB,λx hx=>by rw[zm (λe:x=b=>nb (by rw[←e];exact hx))];exact hb x (sub x hx)⟩
   have back:∀{ρ':Env} {σ':St} {F2 H2:Hp},RS X.K G F0 (upd B b (.lst vs)) (Y.set j (.px (.ref b))) F2 H2 ρ' σ'->RS X.K G F0 B Y F2 H2 ρ' σ':=λq=>by
    obtain⟨LP,Bv,CD,Bm⟩:=q.sl;have Mm:b∉LP:=λz=>by rw[Bm b z]at DR;cases DR
    obtain⟨Bl,g1,g2,g3⟩:=SL.lendB (B:=B) Bv ho hm (λd al=>Ul (q.nf b _ DR (λxs e=>by cases e) Qj) (q.bh _ _ DR) DR kb al) CD Mm;exact⟨q.f0,λx o e=>q.bh _ _ (Bu x o e),q.fh,λx o e=>q.nf x o (Bu x o e),Bl,g1,g2,λx hx=>(g3 x hx).elim (λe=>e▸Bb) λz=>by have:=Bm x z;rwa[zm (λe:x=b=>Mm (by rw[←e];exact z))]at this⟩
   refine⟨b,hσ,(h b).choose_spec.2 F0 _ F H Z M o E pG e ?_⟩;cases o with
   |nx ρ'=>exactλσ' F' H' q=>z _ F' H' (back q)
   |bk ρ'=>exactλσ' F' H' q=>z _ F' H' (back q)
   |ct ρ'=>exactλσ' F' H' q=>z _ F' H' (back q)
   |rt d=>
    intro v F2 H2 lL s1 s2 s3 s4 o1 n1 f1;refine z v F2 H2 lL s1 (λx o e=>s2 _ _ (Bu x o e)) s3 (λx o e=>s4 x o (Bu x o e)) o1 n1 λx hx=>?_;have:=f1 x hx;by_cases ex:x=b
    ·subst ex;exact Bb
    ·rwa[zm ex]at this
  ·cases e
theorem Y4 {u:V}(i:Nat)(hm:Y[i]?=U (.px u):=by rfl)(hN:X.N[i]?=U x:=by rfl)(hv:sm X.env.scope x:=by walk_at "v1")(hd:kC x:=by decide)
  (kW:tI x:=by decide):XI X G Y 0 tg (.Name x pos) (Ý (C i)):=by
 refine⟨_,Hq (xm hN hv hd kW),λF0 B F H Z M S R rs e w=>?_⟩;obtain⟨d,h1,h2⟩:=cK e;rw[Hg h2]at h1;obtain⟨fp,sl,_,_⟩:=rs.sl;obtain⟨BK,l⟩:=sl.atP hm (zl h1);refine⟨u,BK,?_⟩;rcases l with l|l
 ·obtain⟨a,vs,rfl,ha,hp⟩:=Dt.lst_inv l;exact⟨a,rfl,⟨vs,rs.fh.seq ha⟩,w _ F H (.refl rs.fh) (Em (Ϙ:=H) (hp.pr.mono λ_ _=>Al.of) λF2 H2 s1 s2 s3=>s3.seq (s1.seq ha))⟩
 ·cases l with
  |lst ha hp=>exact⟨_,rfl,⟨_,ir.of (rs.bh _ _ ha)⟩,w _ F H (.refl rs.fh) (Em (Ϙ:=H) hp λF2 H2 s1 s2 s3=>ir.of (s2 _ _ ha))⟩
def AU:R2:=λx y H Q=>∃a b,x=.str a/\y=.str b/\Q (.bl (Txt.contains b a)) H
theorem Y5:li X (eh .In) AU:=by intro cn s M H x y v u Q I rx ry h;obtain⟨a,b,rfl,rfl,q⟩:=h;obtain⟨t,rfl⟩:=rx;obtain⟨t',rfl⟩:=ry;exact PySem.SB.contains ⟨.bl _,H,I,rfl,q⟩
noncomputable def AL:D->D->Option D
 |.str a,.str b=>U (.bl (Txt.contains b a))
 |_,_=>L
theorem VX:rV K G n m k AU AL:=by
 intro F H x y d1 d2 d Q s l1 l2 e w;cases d1 with
 |str a=>
  cases d2 with
  |str b=>cases e;exact⟨a,b,l1.str,l2.str,w _ F H (.refl s) (Al.of (.bl _))⟩
  |_=>cases e
 |_=>cases e
noncomputable def fM:List Mo->Bool
 |[]=>Â
 |.ow 0::Y=>fM Y
 |.al 1::Y=>fM Y
 |_=>Ã
noncomputable def qU:Env->Bool
 |[]=>Â
 |some (.obj _ _ _)::_=>Ã
 |_::r=>qU r
section
variable {B1:Hp}{a:cr}
theorem SL.low (h:SL K G F B H Y Z M fp)(sF:dJ F F')(sB:dJ B B1):fM Y=Â->fp=[]/\SL K G F' B1 H' Y Z M []:=by
 induction h with
 |nil=>exactλ_=>⟨rfl,.nil⟩
 |@no m _ _ _ _ _ t ih=>
  intro e;have e':∀{Y:List Mo},fM (m::Y)=Â->fM Y=Â:=by
   intro Y e;unfold fM at e
   split at e<;>simp_all
  obtain⟨h1,h2⟩:=ih (e' e);exact⟨h1,.no h2⟩
 |@al n _ _ Y _ _ _ h t ih=>
  intro e;have e':fM Y=Â:=by
   unfold fM at e
   split at e<;>simp_all
  obtain⟨h1,h2⟩:=ih e';exact⟨h1,.al (h.mono sF sB) h2⟩
 |px h t ih=>intro e;simp[fM]at e
 |so h t ih=>intro e;simp[fM]at e
 |@ow n _ _ _ _ _ _ _ h t ih=>
  intro e;cases n with
  |zero=>obtain⟨h1,h2⟩:=ih e;obtain⟨hd,rfl⟩:=h;exact⟨by rw[h1];rfl,SL.ow (f:=[]) (Ow.zero (Dt.mono sF hd)) h2⟩
  |succ n=>simp[fM]at e
theorem SL.back (h:SL K G F B1 H Y Z M fp)(hb:∀x o,B1 x=U o->(∀c dx fs,o≠.ins c dx fs)->(∀q c dx fs,o≠.frz q (.ins c dx fs))->B x=U o):fM Y=Â->qU Z=Â->SL K G F B H Y Z M fp:=by
 induction h with
 |nil=>exactλ_ _=>.nil
 |@no m _ _ Z _ _ t ih=>
  intro e n;have e':∀{Y:List Mo},fM (m::Y)=Â->fM Y=Â:=by
   intro Y e;unfold fM at e
   split at e<;>simp_all
  exact .no (ih (e' e) n)
 |@al n d v Y Z _ _ h t ih=>
  intro e nb;have e':n=1/\fM Y=Â:=by
   unfold fM at e
   split at e<;>simp_all
  obtain⟨rfl,e'⟩:=e';have G2:(∀c ns S,d≠.obj c ns S)/\qU Z=Â:=by cases d<;>simp_all [qU]
  refine .al ?_ (ih e' G2.2);rcases h with h|h
  ·exact .inl h
  ·cases h with
   |lst q l=>exact .inr (.lst (hb _ _ q (λ_ _ _ e=>by cases e) λ_ _ _ _ e=>by cases e) l)
   |tup q l=>exact .inr (.tup q l)
   |dK q e l=>exact .inr (.dK (hb _ _ q (λ_ _ _ e=>by cases e) λ_ _ _ _ e=>by cases e) e l)
   |dT q e l=>
    refine .inr (.dT ?_ e l);rcases q with q|⟨o,q⟩
    ·exact .inl (hb _ _ q (λ_ _ _ e=>by cases e) λ_ _ _ _ e=>by cases e)
    ·exact .inr ⟨o,hb _ _ q (λ_ _ _ e=>by cases e) λ_ _ _ _ e=>by cases e⟩
   |obj q e l=>exact absurd rfl (G2.1 _ _ _)
 |px h t ih=>intro e;simp[fM]at e
 |so h t ih=>intro e;simp[fM]at e
 |@ow n d _ _ Z _ _ _ h t ih=>
  intro e nb;cases n with
  |zero=>
   have G2:qU Z=Â:=by cases d<;>simp_all [qU]
   exact .ow h (ih e G2)
  |succ n=>simp[fM]at e
end
def sP (f:SF)(g:EM):EM:=λZ=>match Z with
 |some (.obj _ _ _)::_=>(f Z).bind λo=>match o with
  |.nx (p::r)=>if qU r=Â then g (p::r)else L
  |.rt d=>U (d,Z)
  |_=>L
 |_=>L
theorem WG {a:cr}(h1:XS X G (.px (.ref a)::Y) 0 st u)(h2:tQ X G (.so a::Y) Ó gm)(hl:fM Y=Â:=by rfl):tQ X G (.so a::Y) (st::Ó) (sP u gm):=by
 obtain⟨t,pt,qt⟩:=h1;obtain⟨t2,tT,tU⟩:=h2;refine⟨λE M H=>(∀b o,X.K.lookup b=U o->H b=L)->_,λcn s M H D I ht=>Kp pt tT cn s M H D I (ht λb o e=>(I.bs b o (I.mod.kin b o e)).2),λF0 B F H Z ρ' M d E rs e z hK=>?_⟩;obtain⟨fp,sl,nd,hb⟩:=rs.sl;cases sl with
 |no t=>cases e
 |@so p _ _ r σ1 fp1 ow t=>
  obtain⟨e0,t'⟩:=t.low (F':=F) (B1:=B) (H':=H) (.refl _) (.refl _) hl;subst e0;have Ba:B a=L:=hb a cg;cases p with
  |obj c ns S=>
   obtain⟨o1,e1,e2⟩:=cK e;obtain⟨_,dx,vs,fr,q1,q2,hF,hH,iu,ol⟩:=ow.obj_inv;cases q1;have q0:=ol.nil0;subst q0;have ol:Pr (Dt X.K G F) S vs:=ol.pr λ_ _ _ _ q=>q.1;have Be:upd B a (.ins (G c) dx (ns.zip vs)) a=U (.ins (G c) dx (ns.zip vs)):=zo;have Bu:dJ B (upd B a (.ins (G c) dx (ns.zip vs))):=λx o q=>by rw[zm (λe:x=a=>by rw[e,Ba]at q;cases q)];exact q
   have kb:X.K.lookup a=L:=by
    cases q:X.K.lookup a with
    |none=>rfl
    |some o=>rw[hK a o q]at hH;cases hH
   obtain⟨_,t1⟩:=t.low (F':=F) (B1:=upd B a (.ins (G c) dx (ns.zip vs))) (H':=H) (.refl _) Bu hl;have pG:RS X.K G F (upd B a (.ins (G c) dx (ns.zip vs))) (.px (.ref a)::Y) F H (U (.obj c ns S)::r) (U (.ref a)::σ1):=⟨.refl _,λx o q=>by
    by_cases ex:x=a
    ·subst ex;rw[zo]at q;cases q;exact hH
    ·rw[zm ex]at q;exact rs.bh _ _ q,rs.fh,λ_ _ _ _ h=>h,[],.px (.inr (.obj Be iu ol)) t1,dz,λx hx=>by cases hx⟩
   refine qt F (upd B a (.ins (G c) dx (ns.zip vs))) F H (U (.obj c ns S)::r) (U (.ref a)::σ1) o1 _ pG e1 ?_;have JC:∀F':Hp,(∀x o,upd B a (.ins (G c) dx (ns.zip vs)) x=U o->mK o->F x=L->F' x=L)->∀x o,B x=U o->mK o->F0 x=L->F' x=L:=λF' nf x o q nt q0=>nf x o (Bu x o q) nt (rs.nf x o q nt q0);cases o1 with
   |nx ρ1=>
    intro σ' F' H' q;cases ρ1 with
    |nil=>cases e2
    |cons p1 r1=>
     have e2:(if qU r1=Â then gm (p1::r1)else L)=U (d,ρ'):=e2;by_cases hn:qU r1=Â
     ·rw[if_pos hn]at e2;refine tU F0 B F' H' (p1::r1) ρ' σ' d E ?_ e2 z;obtain⟨Bl,Bv,CD,Bm⟩:=q.sl;have Fa:F' a=L:=q.nf a _ Be (λxs e=>by cases e) hF;have Ha:H' a=U (.ins (G c) dx (ns.zip vs)):=q.bh _ _ Be;have bk:∀x o,upd B a (.ins (G c) dx (ns.zip vs)) x=U o->(∀c dx fs,o≠.ins c dx fs)->(∀q c dx fs,o≠.frz q (.ins c dx fs))->B x=U o:=λx o q n1 n2=>by
       by_cases ex:x=a
       ·subst ex;rw[zo]at q;cases q;exact absurd rfl (n1 _ _ _)
       ·rwa[zm ex]at q
      have fh:RS X.K G F0 B (.so a::Y) F' H' (p1::r1) σ':=by
       cases Bv with
       |no t2=>obtain⟨z0,_⟩:=t2.low (F':=F') (B1:=upd B a (.ins (G c) dx (ns.zip vs))) (H':=H') (.refl _) (.refl _) hl;subst z0;exact⟨rs.f0.trans q.f0,Bu.trans q.bh,q.fh,JC F' q.nf,[],.no (t2.back bk hl hn),dz,λx hx=>by cases hx⟩
       |px al t2=>
        obtain⟨z0,_⟩:=t2.low (F':=F') (B1:=upd B a (.ins (G c) dx (ns.zip vs))) (H':=H') (.refl _) (.refl _) hl;subst z0;refine⟨rs.f0.trans q.f0,Bu.trans q.bh,q.fh,JC F' q.nf,[a],.so ?_ (t2.back bk hl hn),by simp,λx hx=>by rw[cG.mp hx];exact Ba⟩;have rd:∀u,¬Rd F' a u:=λu q=>q.elim (λq=>by rw[Fa]at q;cases q) λ⟨o,q⟩=>by rw[Fa]at q;cases q
        have nk:∀o,X.K.lookup a≠U o:=λo q=>by rw[kb]at q;cases q
        rcases al with al|al
        ·exfalso;cases al with
         |lst q _=>exact q.elim (rd _) λ⟨o,_,_,q,_⟩=>nk o q
         |tup q _=>rw[Fa]at q;cases q
         |dK q _ _=>rw[Fa]at q;cases q
         |dT q _ _=>exact rd _ q
         |obj q _ _=>rw[Fa]at q;cases q
         |exc0 q=>rw[Fa]at q;cases q
         |exc q _ _ _=>rw[Fa]at q;cases q
         |kt q _=>obtain⟨o,_,_,q,_⟩:=q;exact nk o q
        ·cases al with
         |lst q l=>rw[Be]at q;cases q
         |tup q _=>rw[Fa]at q;cases q
         |dK q _ _=>rw[Be]at q;cases q
         |dT q _ _=>exact q.elim (λq=>by rw[Be]at q;cases q) λ⟨o,q⟩=>by rw[Be]at q;cases q
         |obj q e l=>exact .inr (.obj Fa ((Ha.trans Be.symm).trans q) e (iF.ofPr (l.mono λ_ _ q=>⟨q,rfl⟩)))
      exact fh
     ·rw[if_neg hn]at e2;cases e2
   |rt d1=>cases e2;intro v F' H' Bl s1 s2 s3 s4 R7 n1 f1;have Fa:F' a=L:=s4 a _ Be (λxs e=>by cases e) hF;have Ha:H' a=H a:=(s2 _ _ Be).trans hH.symm;obtain⟨_,t3⟩:=t.low (F':=F') (B1:=B) (H':=H') s1 (.refl _) hl;refine z v (U (.ref a)::σ1) F' H' ⟨rs.f0.trans s1,Bu.trans s2,s3,JC F' s4,[a],.so (ow.frame s1 λx hx=>by rw[cG.mp hx];exact⟨Ha,Fa⟩) t3,by simp,λx hx=>by rw[cG.mp hx];exact Ba⟩ R7.1
   |bk ρ1=>cases e2
   |ct ρ1=>cases e2
  |_=>cases e
noncomputable def Ax:EF:=λ_=>L
theorem WH:XE X G Y n e Ax:=⟨λ_ _ _=>False,λ_ _ _ _ _ _ h=>h.elim,λ_ _ _ _ _ _ _ _ _ h _=>nomatch h⟩
variable {xs:List Nat}
section
open PySem PySem.Spec PySem.W L2
open PyProof.Rows hiding St
section
variable {K:Frag}{h:cM}{q m:Str}{f N:cr}{Dj pm G:cj}{dd:Option cr}{fd:cz}{S:List cj}{vs:List V}{o:iZ}{p:Nat}
theorem Ğ (h:findIn K (.ref ϛ) x=U L):fZ K ϛ x:=h
theorem þ (m j:Nat)(hm:m+vs.length=ps.length)(hd:fd.defaults=.ref T)(ho:K.lookup T=U o)(hs:o.data=.seq items n)(hv:dU vs (items.toList.drop j))(h:∀us:List cj,us.length=m->∃k,bindArgs fd ⟨us,[]⟩=seqItems? fd.defaults >>= k/\k (U items)=pure (ps.zip (us++items.toList.drop j))) :
  ∃rD,True/\dU vs rD/\gz K fd ps rD:=⟨_,trivial,hv,OB m ho h hd hs (by rw[←hv.length];exact hm)⟩
end
theorem ą {P:Nat->Prop}:∀c∈([]:List Nat),P c:=λ_ h=>nomatch h
theorem Qc {P:Nat->Prop}{x:Nat}(h:P x)(t:∀c∈xs,P c):∀c∈x::xs,P c:=λc hc=>by
 rcases cu.mp hc with rfl|hc
 ·exact h
 ·exact t c hc
end
section
open PySem PySem.Spec PySem.W L2
open PyProof.Rows hiding St
section
variable {K:Frag}{h:cM}{q m:Str}{f N:cr}{Dj pm G:cj}{dd:Option cr}{fd:cz}{S:List cj}{vs:List V}{o:iZ}{p:Nat}
theorem zC (X:K.In h:=by assumption)(Ϙ:h.Ns dW mg:=by assumption)(a:nsIn K dW x=U (U (.ref ϛ)):=by k_is)(b:makesIn K ϛ=Â:=by k_is)(k:keepIn K (.ref ϛ)=Â:=by k_is)(c:oU K ϛ:=by exact⟨by k_is,by k_is,by k_is,by k_is⟩):Dc K mg x ϛ:=⟨c,mg_of X Ϙ a,b,k⟩
theorem zX {v:cj}(X:K.In h:=by assumption)(Ϙ:h.Ns dW mg:=by assumption)(e:nsIn K dW x=U (U v):=by k_is):mg x=U v:=mg_of X Ϙ e
theorem zB (X:K.In h:=by assumption)(Ϙ:h.Ns dW mg:=by assumption)(e:nsIn K dW x=U L:=by k_is):mg x=L:=mg_none_of X Ϙ e
theorem zG {i:Int}{t:Tok}(e:mg x=U (.int i t):=by exact L3.zX):∃t,mg x=U (.int i t):=⟨t,e⟩
theorem zD (X:mg x=U (.ref f):=by exact L3.zX)(l:K.lookup f=U ⟨oc,od,.func (fnOf x x (lE st) (gP st) (dI st) dV Dj doc pm an jP G),BV⟩:=by k_is)
  (c:codeIn K jP x=Â:=by k_is) (k:keepIn K (.ref f)=Â:=by k_is) (b:gz K (fnOf x x (lE st) (gP st) (dI st) dV Dj doc pm an jP G) ps []:=by first|exact .all (L3.ģ λ_=>rfl)|exact .all (L3.ď λ_ _=>rfl)|exact .all (L3.Ď λ_ _ _=>rfl)|exact .all (L3.ĉ λ_ _ _ _=>rfl)|exact .all (L3.č λ_ _ _ _ _=>rfl)|exact .all (L3.ī λ_ _ _ _ _ _=>rfl)):iP K mg x st ps f (fnOf x x (lE st) (gP st) (dI st) dV Dj doc pm an jP G):=⟨OA l c k,X,b⟩
theorem zM (a:findIn K (.ref ϛ) m=U (U (.ref f)):=by k_is)(i:isFn K (.ref f)=Â:=by k_is)(l:K.lookup f=U ⟨oc,od,.func (fnOf m q (lE st) (gP st) (dI st) dV Dj doc pm an jP G),BV⟩:=by k_is)
  (c:codeIn K jP q=Â:=by k_is) (k:keepIn K (.ref f)=Â:=by k_is) (b:gz K (fnOf m q (lE st) (gP st) (dI st) dV Dj doc pm an jP G) ps []:=by first|exact .all (L3.ģ λ_=>rfl)|exact .all (L3.ď λ_ _=>rfl)|exact .all (L3.Ď λ_ _ _=>rfl)|exact .all (L3.ĉ λ_ _ _ _=>rfl)|exact .all (L3.č λ_ _ _ _ _=>rfl)|exact .all (L3.ī λ_ _ _ _ _ _=>rfl)):Dm K ϛ m q st ps f (fnOf m q (lE st) (gP st) (dI st) dV Dj doc pm an jP G):=⟨OA l c k,⟨a,i,k⟩,b⟩
theorem zE (m:Nat)(h:∀us:List cj,us.length=m->∃k,bindArgs fd ⟨us,[]⟩=seqItems? fd.defaults >>= k/\k (U items)=pure (ps.zip (us++S)))(hm:m+S.length=ps.length:=by rfl)(hd:fd.defaults=.ref T:=by rfl)(ho:K.lookup T=U o:=by k_is)(hs:o.data=.seq items n:=by rfl):gz K fd ps S:=OB m ho h hd hs hm
end
theorem zF {P:Nat->Prop}{x:Nat}(t:∀c∈xs,P c)(h:P x:=by exact⟨⟨by k_is,by k_is,by k_is,by k_is⟩,L3.Ğ (by k_is)⟩):∀c∈x::xs,P c:=Qc h t
theorem zI {P:Nat->Prop}{x:Nat}(t:∀c∈xs,P c)(h:P x:=by exact⟨⟨⟨by k_is,by k_is,by k_is,by k_is⟩,by k_is,by k_is,by k_is,by k_is⟩,by kit_is⟩):∀c∈x::xs,P c:=Qc h t
end
section
variable {fd:cz}
theorem xv {o:Mo}(hm:Y[i]?=U o:=by rfl)(hl:o.lv=n:=by rfl)(hN:X.N[i]?=U x:=by rfl)(hv:sm X.env.scope x:=by walk_at "v1")(hd:kC x:=by decide)
  (kW:tI x:=by decide):XE X G Y n (.Name x pos) (C i):=Gh i n hm hl hN hv hd kW
theorem pY (hr:fH kq X.A)(ha:XE X G Y n a f)(hb:XE X G Y m b g):XT X G Y (.Compare a [.Eq] [b] pos) (tb (e2 (ga Ã) f g)):=vh (k:=0) (Pw hr.u64) qh ha hb (i8 _)
theorem AX (hr:fH kq X.A)(ha:XE X G Y n a f)(hb:XE X G Y m b g):XT X G Y (.Compare a [.NotEq] [b] pos) (tb (e2 (ga Â) f g)):=vh (k:=0) (Ee hr.u64) qh ha hb (i8 _)
theorem Ċ (hr:fH kq X.A)(ha:XE X G Y n a f)(hb:XE X G Y m b g):XE X G Y 0 (.Compare a [.Eq] [b] pos) (e2 (ga Ã) f g):=DJ (k:=0) (Pw hr.u64) qh ha hb (i8 _)
theorem SQ (hr:fH kq X.A)(ha:XE X G Y n a f)(hb:XE X G Y m b g):XE X G Y 0 (.Compare a [.NotEq] [b] pos) (e2 (ga Â) f g):=DJ (k:=0) (Ee hr.u64) qh ha hb (i8 _)
theorem zR (ha:XE X G Y n a f)(hb:XE X G Y m b g):XT X G Y (.Compare a [.Lt] [b] pos) (tb (e2 tL f g)):=vh (k:=0) P3 Pz ha hb (i8 _)
theorem B3 (ha:XE X G Y n a f)(hb:XE X G Y m b g):XT X G Y (.Compare a [.Gt] [b] pos) (tb (e2 wM f g)):=vh (k:=0) Ĺ ų ha hb (i8 _)
theorem Sv (ha:XE X G Y n a f)(hb:XE X G Y m b g):XT X G Y (.Compare a [.GtE] [b] pos) (tb (e2 Cv f g)):=vh (k:=0) P4 PB ha hb (i8 _)
theorem zQ (ha:XE X G Y n a f)(hb:XE X G Y m b g):XT X G Y (.Compare a [.Is] [b] pos) (tb (e2 (pQ Ã) f g)):=vh (k:=0) Ő ZZ ha hb (i8 _)
theorem Sy (ha:XE X G Y n a f)(hb:XE X G Y m b g):XT X G Y (.Compare a [.IsNot] [b] pos) (tb (e2 (pQ Â) f g)):=vh (k:=0) WU VL ha hb (i8 _)
theorem SO (ha:XE X G Y n a f)(hb:XE X G Y m b g):XE X G Y 0 (.Compare a [.Lt] [b] pos) (e2 tL f g):=DJ (k:=0) P3 Pz ha hb (i8 _)
theorem B9 (ha:XE X G Y n a f)(hb:XE X G Y m b g):XE X G Y 0 (.Compare a [.LtE] [b] pos) (e2 zH f g):=DJ (k:=0) ZY YH ha hb (i8 _)
theorem SM (ha:XE X G Y n a f)(hb:XE X G Y m b g):XE X G Y 0 (.Compare a [.GtE] [b] pos) (e2 Cv f g):=DJ (k:=0) P4 PB ha hb (i8 _)
theorem rY (ha:XE X G Y n a f)(hb:XE X G Y m b g):XE X G Y 0 (.BinOp a .Sub b pos) (e2 nc f g):=CQ (k:=0) Zu YC ha hb
theorem ï (ha:XE X G Y n a f)(hb:XE X G Y m b g):XE X G Y 0 (.BinOp a .FloorDiv b pos) (e2 kG f g):=CQ (k:=0) WJ WT ha hb
theorem ä (ha:XE X G Y n a f)(hb:XE X G Y m b g):XE X G Y 0 (.BinOp a .Mod b pos) (e2 i7 f g):=CQ (k:=0) Yc YE ha hb
theorem zJ (ha:XE X G Y n a f)(hb:XE X G Y m b g):XE X G Y 0 (.BinOp a .Mult b pos) (e2 n6 f g):=CQ (k:=0) XX WX ha hb
theorem fP (h:XO X G Y k e f):XE X G Y 0 e f:=XO.sh h
theorem xc (d:iP X.K X.mg x st ps fa fd)(Fn:dL X.prog X.w X.K X.mg X.base fJ kk fa fd ps (iH X.K G ns rk mf))(hr:fH kq X.A)(ha:XA X G Y (e::es) ns fs)(ox:kk<=kq:=by decide)(hg:Gl X x:=by rfl)
  (nH:kC x:=by decide) (he:SE X e es:=by rfl) (kL:pL X pos es:=by rfl) :
  XE X G Y 0 (.Call (.Name x pp) (e::es) [] pos) (λZ=>(fs Z).bind λS=>mf (S++[])):=fP (lz d Fn hr ha ox hg nH he kL)
theorem lu (he:XE X G Y 0 e f)(hc:∀c∈cs,oU X.K (G c)/\fZ X.K (G c) x)(hb:Ae X e x:=by rfl):XE X G Y 0 (.Attribute e x pos) (e1 (dH cs x) f):=Py (n:=0) he hc hb
theorem yY (he:XE X G Y 1 e f)(hc:∀c∈cs,oU X.K (G c)/\fZ X.K (G c) x)(hb:Ae X e x:=by rfl):XE X G Y 0 (.Attribute e x pos) (e1 (dH cs x) f):=Py (n:=1) he hc hb
theorem AN (ha:XE X G Y 1 a f)(hb:XE X G Y m b g)(hp:oW b:=by exactλ_ _=>rfl):XE X G Y 0 (.Subscript a b pos) (e2 dX f g):=Gx (n:=1) Ed Gm ha hb hp
theorem Ea {i:Int}(hm:∃t,X.mg x=U (.int i t))(hg:Gl X x:=by rfl)(hd:kC x:=by decide):XE X G Y 0 (.Name x pos) (eC (.int i)):=hm.elim λ_ h=>YQ hg h rfl ⟨_,rfl⟩ hd
theorem xF (hi:XI X G Y n tg iter fi)(hg:XG X G Y n tg gg)(hb:vA X G Y rk Ó u)(hp:mY (c8 X.prog X.w) X.A X.env X.xe:=by exact mY.never)(hc:X.calm=Â:=by rfl)
  (hs:Ao X iter:=by intro _;rfl):XS X G Y rk (.For tg iter Ó [] pos) (Ø fi gg u):=Ŵ hi hg hb hp hc hs
theorem ML (hc:XT X G Y c p)(hb:vA X G Y rk Ó u)(hp:mY (c8 X.prog X.w) X.A X.env X.xe:=by exact mY.never):XS X G Y rk (.While c Ó [] pos) (qV p u):=WS hc hb hp
theorem iG (he:XE X G Y 0 e f):XS X G Y 0 (.Return (U e) pos) (Ê f):=yn (XE.ow he)
theorem pZ (hN:X.N.Nodup)(he:XE X G Y 0 e f)(hm:Y[i]?=U (.ow 0):=by rfl)(hi:X.N[i]?=U x:=by rfl)(hx:õ X.env.scope x:=by walk_at "v3")
  (hs:EO X e x pos' pos:=by rfl)
  (hf:uZ X x:=by walk_at "v2"):XS X G Y rk (.Assign [.Name x pos'] e pos) (Ì i f):=p4 hN (XE.ow he) hm hi hx hs hf
theorem jY (ht:XT X G Y c p)(h:XS X G Y rk st u):XS X G Y rk (.If c [st] [] pos) (Ò p u É):=Lx ht (zh h) vp
theorem tf (hi:BA X G Y n tg iter fi)
  (hg:∀cl ϛ fp s₀ H₀,N.Nodup->Av (nu X scope cl N ϛ fp s₀ H₀) G (om++i9 Y cap) own n tg gg) (ht:∀cl ϛ fp s₀ H₀,BB (nu X scope cl N ϛ fp s₀ H₀) G (om++i9 Y cap) ifs p) (he:∀cl ϛ fp s₀ H₀,XO (nu X scope cl N ϛ fp s₀ H₀) G (om++i9 Y cap) k pz f)
  (nd:N.Nodup:=by decide +kernel) (B:oz X scope N own cap:=by exact Lm (by rfl)) (hc:X.calm=Â:=by rfl) (ho:om.length=own:=by rfl) (kU:∀i∈cap,i<Y.length:=by decide)
  (hs:Ao X iter:=by intro _;rfl):XO X G Y (k+1) (.ListComp pz [⟨tg,iter,ifs,0⟩] scope pos) (eJ fi own cap gg p f):=OJ B hc ho kU hi (λcl ϛ fp s₀ H₀=>hg cl ϛ fp s₀ H₀ nd) ht he hs
theorem AY {vY:oj}(hN:X.N.Nodup)(hi:BA X G Y n tg iter fi)
  (hg:∀cl ϛ fp s₀ H₀,N.Nodup->Av (nu X scope cl N ϛ fp s₀ H₀) G (om++i9 Y cap) own n tg gg) (ht:∀cl ϛ fp s₀ H₀,BB (nu X scope cl N ϛ fp s₀ H₀) G (om++i9 Y cap) ifs p) (he:∀cl ϛ fp s₀ H₀,XO (nu X scope cl N ϛ fp s₀ H₀) G (om++i9 Y cap) (k-1) pz f)
  (nd:N.Nodup:=by decide +kernel) (hm:Y[i]?=U (.ow k):=by rfl) (D1:X.N[i]?=U x:=by rfl) (hx:õ X.env.scope x:=by walk_at "v3")
  (B:oz X scope N own cap:=by exact Lm (by rfl)) (hc:X.calm=Â:=by rfl) (ho:om.length=own:=by rfl) (kU:∀i∈cap,i<Y.length:=by decide)
  (BJ:gQ (.ListComp pz [⟨tg,iter,ifs,0⟩] scope pos) (U (.Name x pos')) vY.line X.env=pure Â:=by rfl)
  (hs:Ao X iter:=by intro _;rfl) (hf:uZ X x:=by walk_at "v2") :
  XS X G Y rk (.Assign [.Name x pos'] (.ListComp pz [⟨tg,iter,ifs,0⟩] scope pos) vY) (Ì i (eJ fi own cap gg p f)):=U6 hm hN D1 hx B hc ho kU hi (λcl ϛ fp s₀ H₀=>hg cl ϛ fp s₀ H₀ nd) ht he BJ hs hf
theorem CP {q:Str}(ϖ:Dc X.K X.mg x (G c0))(d:Dm X.K (G c0) "__init__" q st ps fa fd)(Fn:dL X.prog X.w X.K X.mg X.base fJ kk fa fd ps (wX X.K G cs ns mi))(hr:fH kq X.A)(ha:XA X G Y (e::es) ns fs)(xZ:c0∈cs:=by decide)(ox:kk+1<=kq:=by decide)(hg:Gl X x:=by rfl)
  (nH:kC x:=by decide) (he:SE X e es:=by rfl) (kL:pL X pos es:=by rfl) :
  XO X G Y 1 (.Call (.Name x pp) (e::es) [] pos) (λZ=>(fs Z).bind λS=>mi c0 (S++[])) :=
 YV (ns:=ns) (nd:=[]) (sD:=[]) ⟨ϖ.mks,d.me.at_,d.me.fn,ϖ.kp⟩ xZ (by rw[dA];exact Fn) (hr.mono ox) hg ϖ.mgx d.bd .nil (λ_ _=>.nil) ha nH he kL
end
section
variable {w:dP}{N0:Str}{fd:cz}
theorem lf (Fn:ñ K x qual st fa fd)(body:∀(jP:cj) (A:dQ) (outer:List PySem.Env) (s:cE) (H:Hp) (E:XK),fH kk (A.deeper (envOfC qual (dI st) s.heap.objs.size fa jP))->N.Nodup->vA (rX fJ P w K mg base N qual (dI st) fa jP A outer s H E).nox G Y rk (gP st) bf)
  (ϙ:gp N ps (dI st):=by exact⟨rfl,rfl,rfl,by decide +kernel,rfl,by decide +kernel,by decide +kernel⟩)
  (AH:pm.length=ps.length:=by rfl) (Dd:Y.length=N.length:=by rfl) (ox:ps.length<=N.length:=by decide) (AG:∀(i n:Nat),pm[i]?=U n->Y[i]?=U (Mo.al n)\/(n=0/\Y[i]?=U (Mo.ow 0)):=by exact u6 (by decide)) :
  dL P w K mg base fJ (kk+1) fa fd ps (iH K G pm rk (Ù N bf)):=Ģ Fn ϙ AH Dd ox AG λa b c d e f g=>body a b c d e f g ϙ.nd
theorem D4 (Fn:ñ K x qual st fa fd)(body:∀(x:cr) (jP:cj) (A:dQ) (outer:List PySem.Env) (s:cE) (H:Hp) (E:XK),fH kk (A.deeper (envOfC qual (dI st) s.heap.objs.size fa jP))->(N0::N).Nodup->vA (rX fJ P w K mg base (N0::N) qual (dI st) fa jP A outer s H E).nox G (.so x::Y) rk (gP st) bf)
  (ϙ:gp (N0::N) ps (dI st):=by exact⟨rfl,rfl,rfl,by decide +kernel,rfl,by decide +kernel,by decide +kernel⟩)
  (AH:pm.length+1=ps.length:=by rfl) (Dd:Y.length=N.length:=by rfl) (ox:pm.length<=N.length:=by decide) (AG:∀(i n:Nat),pm[i]?=U n->Y[i]?=U (Mo.al n)\/(n=0/\Y[i]?=U (Mo.ow 0)):=by exact u6 (by decide)) :
  dL P w K mg base fJ (kk+1) fa fd ps (wX K G cs pm (BL (N0::N) bf)):=VD Fn ϙ AH Dd ox AG λx a b c d e f g=>body x a b c d e f g ϙ.nd
end
end L3
namespace My
open PySem L2 L3
noncomputable abbrev cl (m:List D->Option D)(fs:L3.Env->Option (List D)):EF:=λZ=>(fs Z).bind λS=>m (S++[])
noncomputable abbrev sI (i:Int):Option D:=some (.int i)
noncomputable abbrev sL (xs:List D):Option D:=some (.lst xs)
noncomputable abbrev mO (l:List Nat):List Mo:=l.map .ow
noncomputable def Ö (i:Nat):dS:=PySem.Challenge.pw_ringbeat_k93_whole_text_again.main.body.getD i (.Pass ⟨0,0,0,0⟩)
abbrev Th:dS:=à (Ö 43) 0
abbrev TF:dS:=à (Ö 44) 0
abbrev TH:dS:=à (Ö 45) 0
abbrev TJ:dS:=à (Ö 46) 0
abbrev Um:dS:=Ö 53
abbrev Uo:dS:=Ö 54
abbrev VY:dS:=Ö 55
abbrev Up:dS:=Ö 56
abbrev TK:dS:=Ö 57
abbrev U8:dS:=Ö 58
abbrev S8:dS:=Ö 59
abbrev Ua:dS:=à (Ö 63) 0
abbrev jx:dS:=à (Ö 63) 1
abbrev U9:dS:=à (Ö 63) 2
abbrev Uq:dS:=à (Ö 63) 3
abbrev Ur:dS:=Ö 97
abbrev TN:dS:=Ö 98
abbrev qp:dS:=Ö 99
abbrev Ti:dS:=Ö 100
abbrev qq:dS:=Ö 101
abbrev Tj:dS:=Ö 102
abbrev S9:dS:=Ö 104
abbrev Y6:dS:=Ö 17
abbrev Xk:dS:=Ö 18
abbrev Ta:dS:=Ö 20
abbrev Ub:dS:=Ö 21
abbrev jb:dS:=Ö 22
abbrev qr:dS:=Ö 23
abbrev ĳ:dS:=Ö 24
abbrev Xl:dS:=Ö 26
abbrev Va:dS:=Ö 27
abbrev qv:dS:=Ö 28
abbrev Uc:dS:=Ö 29
abbrev TQ:dS:=Ö 30
abbrev VZ:dS:=Ö 31
abbrev Tl:dS:=Ö 32
abbrev qw:dS:=Ö 33
abbrev Ts:dS:=Ö 34
abbrev Us:dS:=Ö 36
abbrev Xm:dS:=Ö 37
abbrev Tb:dS:=Ö 38
abbrev Tt:dS:=Ö 39
abbrev Tu:dS:=Ö 40
abbrev V0:dS:=Ö 41
abbrev Ud:dS:=Ö 111
abbrev Vb:dS:=Ö 112
abbrev Xn:dS:=Ö 114
abbrev Ue:dS:=Ö 115
abbrev Tn:dS:=Ö 116
abbrev jc:dS:=Ö 118
abbrev jd:dS:=Ö 119
abbrev je:dS:=Ö 120
abbrev M9:dS:=Ö 121
abbrev Ut:dS:=Ö 122
abbrev jf:dS:=Ö 123
abbrev NE:dS:=Ö 127
abbrev MW:dS:=Ö 130
abbrev Tv:dS:=à (Ö 136) 0
abbrev Na:dS:=à (Ö 136) 1
abbrev Tw:dS:=Ö 138
abbrev Ug:dS:=Ö 139
abbrev Uu:dS:=Ö 140
abbrev Vc:dS:=Ö 141
abbrev Uz:dS:=Ö 142
abbrev V1:dS:=Ö 143
abbrev Uh:dS:=Ö 144
abbrev UA:dS:=Ö 145
abbrev V2:dS:=Ö 146
abbrev V3:dS:=Ö 147
abbrev UB:dS:=Ö 148
abbrev Nb:dS:=Ö 149
abbrev Ĳ:dS:=Ö 150
theorem To:gp ["desk","words"] ["desk","words"] (dI jc):=⟨rfl,rfl,rfl,by decide +kernel,rfl,by decide +kernel,by decide +kernel⟩
theorem Tp:gp ["desk","arrows"] ["desk","arrows"] (dI jd):=⟨rfl,rfl,rfl,by decide +kernel,rfl,by decide +kernel,by decide +kernel⟩
theorem Tq:gp ["desk","words"] ["desk","words"] (dI je):=⟨rfl,rfl,rfl,by decide +kernel,rfl,by decide +kernel,by decide +kernel⟩
theorem MX:gp ["desk","words","number"] ["desk","words"] (dI M9):=⟨rfl,rfl,rfl,by decide +kernel,rfl,by decide +kernel,by decide +kernel⟩
theorem wv:gp ["desk","words","arrows","number"] ["desk","words"] (dI jf):=⟨rfl,rfl,rfl,by decide +kernel,rfl,by decide +kernel,by decide +kernel⟩
theorem Vd:gp ["desk","words"] ["desk","words"] (dI NE):=⟨rfl,rfl,rfl,by decide +kernel,rfl,by decide +kernel,by decide +kernel⟩
theorem qk:gp ["desk","words","paper"] ["desk","words"] (dI MW):=⟨rfl,rfl,rfl,by decide +kernel,rfl,by decide +kernel,by decide +kernel⟩
theorem uo:gp ["self","row","words","answer"] ["self","row"] (dI Na):=⟨rfl,rfl,rfl,by decide +kernel,rfl,by decide +kernel,by decide +kernel⟩
theorem uq:gp ["_law_desk","_law_arrows","_law_names","_law_rounds","_law_most","_law_rows","_law_going"] ["_law_desk","_law_arrows","_law_names","_law_rounds","_law_most"] (dI Nb):=⟨rfl,rfl,rfl,by decide +kernel,rfl,by decide +kernel,by decide +kernel⟩
set_option genInjectivity false
set_option genSizeOf false
structure ć where
 b:cr
 c:cr
 d:cr
 e:cr
 f:cr
 g:cr
 h:cr
 i:cr
 j:cz
 k:cr
 l:cz
 m:cr
 n:cz
 o:cr
 p:cz
 q:cr
 r:cz
 s:cr
 t:cz
 u:cr
 v:cz
 x:cr
 y:cz
 z:cr
 aa:cz
 ab:cr
 ac:cz
 ad:cr
 ae:cz
 af:cr
 ag:cz
 ah:cr
 ai:cz
 aj:cr
 ak:cz
 al:cr
 am:cz
 an:cr
 ao:cz
 ap:cr
 aq:cz
 ar:cr
 au:cz
 av:cr
 aw:cz
 ax:cr
 ay:cz
 az:cr
 aA:cz
 aB:cr
 aC:cz
 aD:cr
 aE:cz
 aF:cr
 aG:cz
 aH:cr
 aI:cz
 aJ:cr
 aK:cz
 aL:cr
 aM:cz
 aN:cr
 aO:cz
 aP:cr
 aQ:cz
 aR:cr
 aS:cz
 aT:cr
 aU:cz
 aV:cr
 aW:cz
 aX:cr
 aY:cz
 aZ:cr
 a0:cz
 a1:cr
 a2:cz
 a3:cr
 a4:cz
 a5:cr
 a6:cz
 a7:cr
 a8:cz
 a9:cr
 ba:cz
 bb:cr
 bc:cz
 bd:cr
 be:cz
 bf:cr
 bg:cz
 bh:cr
 bi:cz
 bj:cr
 bk:cz
 bl:cr
 bm:cz
 bn:cr
 bo:cz
 bp:cr
 bq:cz
 br:cr
 bs:cz
 bt:cr
 bu:cz
 bv:cr
 bw:cz
 bx:cr
 bz:cz
 bA:cr
 bB:cz
 bC:cr
 bD:cz
 bE:cr
 bF:cz
 bG:cr
 bH:cz
 bI:cr
 bJ:cz
 bK:cr
 bL:cz
 bM:cr
 bN:cz
 bO:cr
 bP:cz
 bQ:cr
 bR:cz
 bS:cr
 bT:cz
 bU:cr
 bV:cz
 bW:cr
 bX:cz
 bY:cr
 bZ:cz
 b0:cr
 b1:cz
 b2:cr
 b3:cz
 b4:cr
 b5:cz
 b6:cr
 b7:cz
 b8:cr
 b9:cz
 ca:cr
 cb:cz
 cc:cr
 cd:cz
 ce:cr
 cf:cz
set_option genSizeOf true
set_option genInjectivity true
noncomputable def ć.ct (a:ć):Nat->cr
 |0=>a.b
 |1=>a.c
 |2=>a.d
 |3=>a.e
 |4=>a.f
 |5=>a.g
 |6=>a.h
 |_=>0
noncomputable def zp:D:=(.kt [(.str "cut"),(.str "change")])
noncomputable def yq:D:=(.kt [(.str "late"),(.str "fate"),(.str "spare"),(.str "give")])
noncomputable def yk:List (Str×D):=[("cut",(.kt [(.kt [(.int 0),(.int 999999999999999)])])),("change",(.kt [(.kt [(.int 0),(.int 999999999999999)]),(.kt [(.int 0),(.int 999999999999999)])])),("put",(.kt [.non,(.kt [(.int 0),(.int 400)]),(.kt [(.int 0),(.int 1000000000000)])])),("show",(.kt [])),("run",(.kt [(.kt [(.int 0),(.int 400)])])),("least",(.kt [])),("rate",(.kt [.non])),("again",(.kt [(.kt [(.int 1),(.int 200)])])),("late",(.kt [(.kt [(.int 0),(.int 400)])])),("fate",(.kt [(.kt [(.int 1),(.int 400)])])),("spare",(.kt [.non,.non])),("give",(.kt [.non,(.kt [(.int 0),(.int 60)])]))]
structure Txt (K:cm)(mg:Str->Option cj)(a:ć)(w:dP):Prop where
 b:Dc K mg "Arrow" a.b
 c:Dc K mg "Ride" a.c
 d:Dc K mg "Wait" a.d
 e:Dc K mg "Back" a.e
 f:Dc K mg "Net" a.f
 g:Dc K mg "Table" a.g
 h:Dc K mg "Desk" a.h
 i:Dm K a.b "__init__" "Arrow.__init__" Th ["self","start","goal","time","behind"] a.i a.j
 j:Dm K a.c "__init__" "Ride.__init__" TF ["self","start","goal","time"] a.k a.l
 k:Dm K a.d "__init__" "Wait.__init__" TH ["self","start","goal","time","behind"] a.m a.n
 l:∃rD,True/\dU [(V.int 0)] rD/\gz K a.n ["self","start","goal","time","behind"] rD
 m:Dm K a.e "__init__" "Back.__init__" TJ ["self","start","goal","time","behind"] a.o a.p
 n:∃rD,True/\dU [(V.int 1)] rD/\gz K a.p ["self","start","goal","time","behind"] rD
 o:iP K mg "is_letter" Um ["sign"] a.q a.r
 p:iP K mg "is_figure" Uo ["sign"] a.s a.t
 q:iP K mg "is_name" VY ["word"] a.u a.v
 r:iP K mg "are_names" Up ["names"] a.x a.y
 s:iP K mg "lies_within" TK ["number","least","most"] a.z a.aa
 t:iP K mg "is_right" U8 ["arrow","many"] a.ab a.ac
 u:iP K mg "placed_goings" S8 ["many","arrows"] a.ad a.ae
 v:Dm K a.f "__init__" "Net.__init__" Ua ["self","names","arrows"] a.af a.ag
 x:Dm K a.f "most_behind" "Net.most_behind" jx ["self"] a.ah a.ai
 y:Dm K a.f "into" "Net.into" U9 ["self","going"] a.aj a.ak
 z:Dm K a.f "order" "Net.order" Uq ["self"] a.al a.am
 aa:iP K mg "is_number" Ur ["word"] a.an a.ao
 ab:iP K mg "are_numbers" TN ["words"] a.ap a.aq
 ac:iP K mg "has_arrow_form" qp ["words"] a.ar a.au
 ad:iP K mg "names_in_row" Ti ["words"] a.av a.aw
 ae:iP K mg "refuse_unknown" qq ["told","names"] a.ax a.ay
 af:iP K mg "arrow_of_row" Tj ["words","names"] a.az a.aA
 ag:iP K mg "arrows_of_row" S9 ["words","names"] a.aB a.aC
 ah:iP K mg "later" Y6 ["when","more"] a.aD a.aE
 ai:iP K mg "latest" Xk ["one","other"] a.aF a.aG
 aj:iP K mg "greatest_told" Ta ["told"] a.aH a.aI
 ak:iP K mg "rows_ahead" Ub ["net","was"] a.aJ a.aK
 al:iP K mg "time_in_last_row" jb ["net","rows","numbers","floor"] a.aL a.aM
 am:iP K mg "rows_with_past" qr ["net","rounds","was","floors"] a.aN a.aO
 an:iP K mg "run" ĳ ["net","rounds","was","floors"] a.aP a.aQ
 ao:∃rD,True/\dU [V.non] rD/\gz K a.aQ ["net","rounds","was","floors"] rD
 ap:∃rD,True/\dU [V.non,V.non] rD/\gz K a.aQ ["net","rounds","was","floors"] rD
 aq:iP K mg "growth" Xl ["rows","first","count"] a.aR a.aS
 ar:iP K mg "grows_so" Va ["rows","first","last","count","lengths"] a.aT a.aU
 au:iP K mg "never_outgrown" qv ["net","lengths"] a.aV a.aW
 av:iP K mg "is_carried" Uc ["rows","carriers","going","number"] a.aX a.aY
 aw:iP K mg "all_carried" TQ ["net","rows","first","last","lengths"] a.aZ a.a0
 ax:iP K mg "goes_on" VZ ["net","rows","paper"] a.a1 a.a2
 ay:iP K mg "refuse_loose" Tl ["net"] a.a3 a.a4
 az:iP K mg "earliest_round" qw ["rows","known","count","lengths"] a.a5 a.a6
 aA:iP K mg "comes_again" Ts ["net","most","was"] a.a7 a.a8
 aB:∃rD,True/\dU [V.non] rD/\gz K a.a8 ["net","most","was"] rD
 aC:iP K mg "time_word" Us ["time"] a.a9 a.ba
 aD:iP K mg "widest" Xm ["words"] a.bb a.bc
 aE:iP K mg "number_column" Tb ["first","many"] a.bd a.be
 aF:iP K mg "time_column" Tt ["name","times"] a.bf a.bg
 aG:iP K mg "line_across" Tu ["columns","place"] a.bh a.bi
 aH:iP K mg "almanac" V0 ["names","rows","first"] a.bj a.bk
 aI:iP K mg "stands_for" Ud ["word","slot"] a.bl a.bm
 aJ:iP K mg "has_form" Vb ["words"] a.bn a.bo
 aK:iP K mg "is_row" Xn ["desk","words"] a.bp a.bq
 aL:iP K mg "names_told" Ue ["words"] a.br a.bs
 aM:iP K mg "number_words" Tn ["numbers"] a.bt a.bu
 aN:iP K mg "tell_goings" jc ["desk","words"] a.bv a.bw
 aO:iP K mg "take_arrows" jd ["desk","arrows"] a.bx a.bz
 aP:iP K mg "tell_arrows" je ["desk","words"] a.bA a.bB
 aQ:iP K mg "tell_cut" M9 ["desk","words"] a.bC a.bD
 aR:iP K mg "with_time" Ut ["arrow","time"] a.bE a.bF
 aS:iP K mg "tell_change" jf ["desk","words"] a.bG a.bH
 aT:iP K mg "ask_run" NE ["desk","words"] a.bI a.bJ
 aU:iP K mg "ask_again" MW ["desk","words"] a.bK a.bL
 aV:Dm K a.h "__init__" "Desk.__init__" Tv ["self"] a.bM a.bN
 aW:Dm K a.h "say" "Desk.say" Na ["self","row"] a.bO a.bP
 aX:iP K mg "_law_cell_at" Tw ["_law_script","_law_k"] a.bQ a.bR
 aY:iP K mg "_law_is_row" Ug ["_law_cell"] a.bS a.bT
 aZ:iP K mg "_law_mixed" Uu ["_law_cell","_law_k"] a.bU a.bV
 a0:iP K mg "_law_time" Vc ["_law_cell","_law_number_here"] a.bW a.bX
 a1:iP K mg "_law_arrow" Uz ["_law_cell","_law_many","_law_k"] a.bY a.bZ
 a2:iP K mg "_law_row" V1 ["_law_arrow_here","_law_names"] a.b0 a.b1
 a3:iP K mg "_law_number" Uh ["_law_word"] a.b2 a.b3
 a4:iP K mg "_law_table" UA ["_law_text","_law_names","_law_rounds"] a.b4 a.b5
 a5:iP K mg "_law_due" V2 ["_law_arrows","_law_rows","_law_going","_law_when"] a.b6 a.b7
 a6:iP K mg "_law_run" V3 ["_law_arrows","_law_names","_law_rows"] a.b8 a.b9
 a7:iP K mg "_law_again" UB ["_law_text","_law_arrows","_law_rows","_law_most","_law_many"] a.ca a.cb
 a8:iP K mg "_law_told" Nb ["_law_desk","_law_arrows","_law_names","_law_rounds","_law_most"] a.cc a.cd
 a9:iP K mg "law" Ĳ ["_law_script"] a.ce a.cf
 ba:∃u,mg "WORDS_OF_ARROWS"=U u/\KC K zp u
 bb:∃u,mg "WORDS_OF_PLANS"=U u/\KC K yq u
 bc:KG K w mg "FORMS" yk
 bd:KF K w mg "ANSWERS" [("goings",a.bv),("ride",a.bA),("wait",a.bA),("back",a.bA),("cut",a.bC),("change",a.bG),("run",a.bI),("again",a.bK)]
 be:Dq K a.b "__init__" a.i
 bf:∀c∈([6]:List Nat),oU K (a.ct c)/\fZ K (a.ct c) "answered"
 bg:∀c∈([4]:List Nat),oU K (a.ct c)/\fZ K (a.ct c) "arrows"
 bh:∀c∈([0,1,2,3]:List Nat),oU K (a.ct c)/\fZ K (a.ct c) "behind"
 bi:∀c∈([0,1,2,3]:List Nat),oU K (a.ct c)/\fZ K (a.ct c) "goal"
 bj:∀c∈([4]:List Nat),oU K (a.ct c)/\fZ K (a.ct c) "names"
 bk:∀c∈([5,6]:List Nat),oU K (a.ct c)/\fZ K (a.ct c) "net"
 bl:∀c∈([6]:List Nat),oU K (a.ct c)/\fZ K (a.ct c) "puts"
 bm:∀c∈([0,1,2,3]:List Nat),oU K (a.ct c)/\fZ K (a.ct c) "start"
 bn:∀c∈([6]:List Nat),oU K (a.ct c)/\fZ K (a.ct c) "table"
 bo:∀c∈([0,1,2,3]:List Nat),oU K (a.ct c)/\fZ K (a.ct c) "time"
 bp:∀c∈([0,1,2,3,4,5,6]:List Nat),Ic K (a.ct c)/\gj K (.ref (a.ct c)) (.ref a.e)=U (uH [3] c)
 bq:∀c∈([0,1,2,3,4,5,6]:List Nat),Ic K (a.ct c)/\gj K (.ref (a.ct c)) (.ref a.c)=U (uH [1] c)
 br:∀c∈([0,1,2,3,4,5,6]:List Nat),Ic K (a.ct c)/\gj K (.ref (a.ct c)) (.ref a.d)=U (uH [2] c)
 bs:mg "all"=L
 bt:mg "bool"=L
 bu:mg "enumerate"=L
 bv:mg "int"=L
 bw:mg "isinstance"=L
 bx:mg "len"=L
 bz:mg "list"=L
 bA:mg "max"=L
 bB:mg "range"=L
 bC:mg "str"=L
 bD:mg "zip"=L
 bE:∃t,mg "MOST_ARROWS"=U (.int 120 t)
 bF:∃t,mg "MOST_BEHIND"=U (.int 4 t)
 bG:∃t,mg "MOST_FIGURES"=U (.int 15 t)
 bH:∃t,mg "MOST_NAMES"=U (.int 40 t)
 bI:∃t,mg "MOST_SIGNS"=U (.int 8 t)
 bJ:∃t,mg "MOST_TIME"=U (.int 1000000000 t)
variable {K:cm}{mg:Str->Option cj}
noncomputable section
variable {P:eu}{w:dP}{base:cM}{a:ć}{G:Nat->cr}
def ke:Nat->List D->Option D:=BL ["self","start","goal","time","behind"]
  (Ç (m9 [0,1,2,3] "start" (C 1))
  (Ç (m9 [0,1,2,3] "goal" (C 2))
  (Ç (m9 [0,1,2,3] "time" (C 3))
  (m9 [0,1,2,3] "behind" (C 4)))))
theorem wo (T:Txt K mg a w):dL P w K mg base fJ 1 a.i a.j ["self","start","goal","time","behind"] (wX K a.ct [0,1,2,3] [0,0,0,0] ke) :=
 D4 (Y:=mO [0,0,0,0]) (rk:=0) T.i.fn λ_ _ _ _ _ _ _ hr nd=>(zc (uf T.bm xv) (zc (uf T.bi xv) (zc (uf T.bo xv) (zh (uf T.bh xv)))))
def jB:Nat->List D->Option D:=BL ["self","start","goal","time"]
  (uS [0,1,2,3] (Ä (C 1) (Ä (C 2) (Ä (C 3) (Ä (eC (.int 0)) Å)))) ke)
theorem uh (T:Txt K mg a w):dL P w K mg base fJ 2 a.k a.l ["self","start","goal","time"] (wX K a.ct [1] [0,0,0] jB) :=
 D4 (Y:=mO [0,0,0]) (rk:=0) T.j.fn λ_ _ _ _ _ _ _ hr nd=>(zh (K2 (ns:=[0,0,0,0]) (wo T) (hr.mono (by decide)) T.b.mgx T.be.sp T.be.rd T.be.fc T.i.fn.kp T.i.bd (by decide) (za xv (za xv (za xv (za dY ze))))))
def jC:Nat->List D->Option D:=BL ["self","start","goal","time","behind"]
  (uS [0,1,2,3] (Ä (C 1) (Ä (C 2) (Ä (C 3) (Ä (C 4) Å)))) ke)
theorem ui (T:Txt K mg a w):dL P w K mg base fJ 2 a.m a.n ["self","start","goal","time","behind"] (wX K a.ct [2] [0,0,0,0] jC) :=
 D4 (Y:=mO [0,0,0,0]) (rk:=0) T.k.fn λ_ _ _ _ _ _ _ hr nd=>(zh (K2 (ns:=[0,0,0,0]) (wo T) (hr.mono (by decide)) T.b.mgx T.be.sp T.be.rd T.be.fc T.i.fn.kp T.i.bd (by decide) (za xv (za xv (za xv (za xv ze))))))
def jA:Nat->List D->Option D:=BL ["self","start","goal","time","behind"]
  (uS [0,1,2,3] (Ä (C 1) (Ä (C 2) (Ä (C 3) (Ä (C 4) Å)))) ke)
theorem uj (T:Txt K mg a w):dL P w K mg base fJ 2 a.o a.p ["self","start","goal","time","behind"] (wX K a.ct [3] [0,0,0,0] jA) :=
 D4 (Y:=mO [0,0,0,0]) (rk:=0) T.m.fn λ_ _ _ _ _ _ _ hr nd=>(zh (K2 (ns:=[0,0,0,0]) (wo T) (hr.mono (by decide)) T.b.mgx T.be.sp T.be.rd T.be.fc T.i.fn.kp T.i.bd (by decide) (za xv (za xv (za xv (za xv ze))))))
def kZ:List D->Option D:=Ù ["sign"]
  (Ê (eB (ß (tb (e2 zH (eC (.str "a")) (C 0))) (tb (e2 zH (C 0) (eC (.str "z")))))))
theorem ql (T:Txt K mg a w):dL P w K mg base fJ 1 a.q a.r ["sign"] (iH K a.ct [0] 0 kZ) :=
 lf (Y:=mO [0]) T.o.fn λ_ _ _ _ _ _ hr nd=>(zh (iG (ue (B9 (zn (n:=0)) xv) (vi (k:=0) (B9 xv (zn (n:=0)))))))
def kY:List D->Option D:=Ù ["sign"]
  (Ê (eB (ß (tb (e2 zH (eC (.str "0")) (C 0))) (tb (e2 zH (C 0) (eC (.str "9")))))))
theorem qm (T:Txt K mg a w):dL P w K mg base fJ 1 a.s a.t ["sign"] (iH K a.ct [0] 0 kY) :=
 lf (Y:=mO [0]) T.p.fn λ_ _ _ _ _ _ hr nd=>(zh (iG (ue (B9 (zn (n:=0)) xv) (vi (k:=0) (B9 xv (zn (n:=0)))))))
def mD:EF:=(eJ (λZ=>((C 0) Z).bind GF) 1 [] (gV 0) fW (eB (å (tb (cl kZ (Ä (C 0) Å))) (tb (cl kY (Ä (C 0) Å))))))
def lM:List D->Option D:=Ù ["word"]
  (Ç (Ò (å (Þ (tb (e1 (sM "str") (C 0)))) (å (tb (e2 tL (eN ee (Ä (C 0) Å)) (eC (.int 1)))) (tb (e2 wM (eN ee (Ä (C 0) Å)) (eC (.int 8)))))) (Ê (eC (.bl Ã))) É)
  (Ê (eB (ß (tb (cl kZ (Ä (e2 dX (C 0) (eC (.int 0))) Å))) (tb (eN lm (Ä mD Å)))))))
theorem Ve (T:Txt K mg a w):dL P w K mg base fJ 2 a.u a.v ["word"] (iH K a.ct [0] 0 lM) :=
 lf (Y:=mO [0]) T.q.fn λ_ _ _ _ _ _ hr nd=>(zc (jY (XW.t (wa (wc (yt (Gp (k:=0) (by decide) T.bw T.bC w6 xv))) (wa (zR (nO T.bx (za xv ze)) dY) (xq (B3 (nO T.bx (za xv ze)) (Ea T.bI)))))) (iG (yz (n:=0)))) (zh (iG (ue (xc T.o (ql T) hr (za (iY xv dY) ze)) (vi (k:=0) (yu (k:=0) (wm rfl) um rfl T.bs DI (za (fP (tf (N:=["sign"]) (om:=mO [0]) (cap:=[]) (own:=1) (XI.cc (Lh (n:=0) xv)) (λ_ _ _ _ _ h=>(nv h)) (λ_ _ _ _ _=>zy) (λ_ _ _ _ _=>(XE.ow (Lw (xc T.o (ql T) hr (za xv ze)) (vi (k:=0) (xc T.p (qm T) hr (za xv ze)))))))) ze)))))))
def ej:SF:=(Ç (Ò (å (Þ (tb (cl lM (Ä (C 2) Å)))) (tb (λZ=>((C 2) Z).bind λx=>((C 1) Z).bind λy=>(sE y x).bind λr=>U (.bl r.isSome)))) (Ê (eC (.bl Ã))) É)
  (yG 1 (C 2) (eC (.bl Â))))
def gF:List D->Option D:=Ù ["names","seen","name"]
  (Ç (Ò (å (Þ (tb (e1 (sM "list") (C 0)))) (å (tb (e2 tL (eN ee (Ä (C 0) Å)) (eC (.int 1)))) (tb (e2 wM (eN ee (Ä (C 0) Å)) (eC (.int 40)))))) (Ê (eC (.bl Ã))) É)
  (Ç (Ì 1 (eC (.dK [] [])))
  (Ç (Ø (Ý (C 0)) (gV 2) ej)
  (Ê (eC (.bl Â))))))
theorem Ui (T:Txt K mg a w):dL P w K mg base fJ 3 a.x a.y ["names"] (iH K a.ct [0] 0 gF) :=
 lf (Y:=mO [0,1,0]) T.r.fn λ_ _ _ _ _ _ hr nd=>(zc (jY (XW.t (wa (wc (yt (Gp (k:=0) (by decide) T.bw T.bz Hu xv))) (wa (zR (nO T.bx (za xv ze)) dY) (xq (B3 (nO T.bx (za xv ze)) (Ea T.bH)))))) (iG (yz (n:=0)))) (zc (p4 nd WQ) (zc (xF (vq xv) (n8 nd) (zc (jY (XW.t (wa (wc (yt (xc T.q (Ve T) hr (za xv ze)))) (xq (Z3 (Lv hr) xv xv (by with_unfolding_all rfl))))) (iG (yz (n:=0)))) (zh (YX 1 rfl (Lv hr) xv (yz (n:=0)))))) (zh (iG (yz (n:=0)))))))
def et:List D->Option D:=Ù ["number","least","most"]
  (Ç (Ò (å (Þ (tb (e1 (sM "int") (C 0)))) (tb (e1 (sM "bool") (C 0)))) (Ê (eC (.bl Ã))) É)
  (Ê (eB (ß (tb (e2 zH (C 1) (C 0))) (tb (e2 zH (C 0) (C 2)))))))
theorem xy (T:Txt K mg a w):dL P w K mg base fJ 1 a.z a.aa ["number","least","most"] (iH K a.ct [0,0,0] 0 et) :=
 lf (Y:=mO [0,0,0]) T.s.fn λ_ _ _ _ _ _ hr nd=>(zc (jY (XW.t (wa (wc (yt (Gp (k:=0) (by decide) T.bw T.bv wj xv))) (xq (yt (Gp (k:=0) (by decide) T.bw T.bt XY xv))))) (iG (yz (n:=0)))) (zh (iG (ue (B9 xv xv) (vi (k:=0) (B9 xv xv))))))
def nJ:List D->Option D:=Ù ["arrow","many","least","most"]
  (Ç (Ì 2 (ü (tb (e1 (xH [0,1,2,3,4,5,6] [3]) (C 0))) (eC (.int 1)) (eC (.int 0))))
  (Ç (Ì 3 (ü (tb (e1 (xH [0,1,2,3,4,5,6] [1]) (C 0))) (eC (.int 0)) (eC (.int 4))))
  (Ç (Ò (å (Þ (tb (cl et (Ä (e1 (dH [0,1,2,3] "start") (C 0)) (Ä (eC (.int 0)) (Ä (e2 nc (C 1) (eC (.int 1))) Å)))))) (Þ (tb (cl et (Ä (e1 (dH [0,1,2,3] "goal") (C 0)) (Ä (eC (.int 0)) (Ä (e2 nc (C 1) (eC (.int 1))) Å))))))) (Ê (eC (.bl Ã))) É)
  (Ê (eB (ß (tb (cl et (Ä (e1 (dH [0,1,2,3] "time") (C 0)) (Ä (eC (.int 0)) (Ä (eC (.int 1000000000)) Å))))) (tb (cl et (Ä (e1 (dH [0,1,2,3] "behind") (C 0)) (Ä (C 2) (Ä (C 3) Å)))))))))))
theorem UC (T:Txt K mg a w):dL P w K mg base fJ 2 a.ab a.ac ["arrow","many"] (iH K a.ct [0,0] 0 nJ) :=
 lf (Y:=mO [0,0,0,0]) T.t.fn λ_ _ _ _ _ _ hr nd=>(zc (pZ nd (DN (yt (Hx (k:=0) T.bp T.bw T.e.mgx xv)) dY dY)) (zc (pZ nd (DN (yt (Hx (k:=0) T.bq T.bw T.c.mgx xv)) dY (Ea T.bF))) (zc (jY (XW.t (wa (wc (yt (xc T.s (xy T) hr (za (lu xv T.bm) (za dY (za (rY xv dY) ze)))))) (xq (wc (yt (xc T.s (xy T) hr (za (lu xv T.bi) (za dY (za (rY xv dY) ze))))))))) (iG (yz (n:=0)))) (zh (iG (ue (xc T.s (xy T) hr (za (lu xv T.bo) (za dY (za (Ea T.bJ) ze)))) (vi (k:=0) (xc T.s (xy T) hr (za (lu xv T.bh) (za xv (za xv ze)))))))))))
def gE:SF:=(Ò (tb (e2 (ga Ã) (e1 (dH [0,1,2,3] "start") (C 4)) (C 7))) (Ç (vU 3 (e1 (dH [0,1,2,3] "goal") (C 4)) (λi j=>i-j) (eC (.int 1)))
  (Ò (tb (e2 (ga Ã) (e2 dX (C 3) (e1 (dH [0,1,2,3] "goal") (C 4))) (eC (.int 0)))) (ô 5 (e1 (dH [0,1,2,3] "goal") (C 4))) É)) É)
def kc:SF:=(Ç (Ì 7 (e2 dX (C 5) (C 6)))
  (Ç (Ø (Ý (C 2)) (gV 4) gE)
  (AW 6 (i2 λi j=>.int (i+j)) (eC (.int 1)))))
def mG:EF:=(eJ (λZ=>((Ä (C 0) Å) Z).bind jS) 1 [3] (gV 0) (tb (e2 (ga Ã) (e2 dX (C 1) (C 0)) (eC (.int 0)))) (C 0))
def kd:SF:=(vU 3 (e1 (dH [0,1,2,3] "goal") (C 4)) (λi j=>i+j) (eC (.int 1)))
def mH:EF:=(eJ (Ý (C 1)) 1 [] (gV 0) (tb (e2 (ga Ã) (e1 (dH [0,1,2,3] "behind") (C 0)) (eC (.int 0)))) (C 0))
def gD:List D->Option D:=Ù ["many","arrows","within","waited","arrow","placed","done","here"]
  (Ç (Ì 2 mH)
  (Ç (Ì 3 (e2 sV (λZ=>((Ä (eC (.int 0)) Å) Z).bind λS=>U (.lst S)) (C 0)))
  (Ç (Ø (Ý (C 2)) (gV 4) kd)
  (Ç (Ì 5 mG)
  (Ç (Ì 6 (eC (.int 0)))
  (Ç (qV (tb (e2 tL (C 6) (eN ee (Ä (C 5) Å)))) kc)
  (Ê (C 5))))))))
theorem vm (T:Txt K mg a w):dL P w K mg base fJ 1 a.ad a.ae ["many","arrows"] (iH K a.ct [0,0] 0 gD) :=
 lf (Y:=mO [0,0,0,1,0,1,0,0]) T.u.fn λ_ _ _ _ _ _ hr nd=>(zc (AY (k:=0) (N:=["arrow"]) (om:=mO [0]) (cap:=[]) (own:=1) nd (yf (n:=0) xv) (λ_ _ _ _ _ h=>(nv h)) (λ_ _ _ _ _=>(uk (pY hr (lu xv T.bh) dY))) (λ_ _ _ _ _=>(XE.ow xv))) (zc (p4 nd (Ll (xg (k:=0) (zj (XE.ow dY) zx)) xv)) (zc (xF (vq xv) (n8 nd) (zh (OC 3 Ps rfl (lu xv T.bi) dY))) (zc (AY (k:=1) (N:=["going","waited"]) (om:=mO [0]) (cap:=[3]) (own:=1) nd (XI.cc (yh (n:=0) T.bB (za xv ze))) (λ_ _ _ _ _ h=>(nv h)) (λ_ _ _ _ _=>(uk (pY hr (AN xv xv) dY))) (λ_ _ _ _ _=>(XE.ow xv))) (zc (pZ nd dY) (zc (ML (zR xv (nO T.bx (za xv ze))) (zc (pZ nd (AN xv xv)) (zc (xF (vq xv) (n8 nd) (zh (Lx (pY hr (lu xv T.bm) xv) (zc (OC 3 Pt rfl (lu xv T.bi) dY) (zh (jY (pY hr (AN xv (lu xv T.bi)) dY) (u5 5 rfl (XE.ow (lu xv T.bi)))))) vp))) (zh (PK Ps rfl nd rfl (Or.inl rfl) dY))))) (zh (K3 (i:=5) rfl))))))))
def lP:SF:=(Ò (Þ (tb (cl nJ (Ä (C 4) (Ä (eN ee (Ä (C 1) Å)) Å))))) Ú É)
def fL:Nat->List D->Option D:=BL ["self","names","arrows","number","arrow","placed"]
  (Ç (Ò (å (Þ (tb (cl gF (Ä (C 1) Å)))) (tb (e2 wM (eN ee (Ä (C 2) Å)) (eC (.int 120))))) Ú É)
  (Ç (Ø (λZ=>((Ä (C 2) Å) Z).bind λS=>match S with|[.lst xs]=>U (iX 0 xs)|_=>L) (gT (È (gV 3) (È (gV 4) Ô))) lP)
  (Ç (Ì 5 (cl gD (Ä (eN ee (Ä (C 1) Å)) (Ä (C 2) Å))))
  (Ç (Ò (tb (e2 tL (eN ee (Ä (C 5) Å)) (eN ee (Ä (C 1) Å)))) Ú É)
  (Ç (m9 [4] "names" (eN rE (Ä (C 1) Å)))
  (m9 [4] "arrows" (eN rE (Ä (C 2) Å))))))))
theorem jg (T:Txt K mg a w):dL P w K mg base fJ 4 a.af a.ag ["self","names","arrows"] (wX K a.ct [4] [0,0] fL) :=
 D4 (Y:=mO [0,0,0,0,0]) (rk:=0) T.v.fn λ_ _ _ _ _ _ _ hr nd=>(zc (jY (XW.t (wa (wc (yt (xc T.r (Ui T) hr (za xv ze)))) (xq (B3 (nO T.bx (za xv ze)) (Ea T.bE))))) xj) (zc (xF (OK T.bu (za xv ze)) (Gk (n:=1) rfl (ye (n8 nd) (ye (n8 nd) jr))) (zh (jY (wc (yt (xc T.t (UC T) hr (za xv (za (nO T.bx (za xv ze)) ze))))) xj))) (zc (p4 nd (lz T.u (vm T) hr (za (nO T.bx (za xv ze)) (za xv ze)))) (zc (jY (zR (nO T.bx (za xv ze)) (nO T.bx (za xv ze))) xj) (zc (uf T.bj (fP (Kl vo (Kv (n:=0) (by decide)) rfl T.bz Hu (za xv ze)))) (zh (uf T.bg (fP (Kl vo (Kv (n:=0) (by decide)) rfl T.bz Hu (za xv ze))))))))))
def lC:EF:=(eJ (Ý (e1 (dH [4] "arrows") (C 0))) 1 [] (gV 0) fW (e1 (dH [0,1,2,3] "behind") (C 0)))
def eM:List D->Option D:=Ù ["self"]
  (Ê (eN uQ (Ä (e2 dF (λZ=>((Ä (eC (.int 1)) Å) Z).bind λS=>U (.lst S)) lC) Å)))
theorem yx (T:Txt K mg a w):dL P w K mg base fJ 1 a.ah a.ai ["self"] (iH K a.ct [0] 0 eM) :=
 lf (Y:=mO [0]) T.x.fn λ_ _ _ _ _ _ hr nd=>(zh (iG (yu (k:=0) (Ki rfl) K1 rfl T.bA Ef (za (fP (ky (fP (xg (k:=0) (zj (XE.ow dY) zx))) (fP (tf (N:=["arrow"]) (om:=mO [0]) (cap:=[]) (own:=1) (yf (n:=0) (lu xv T.bg)) (λ_ _ _ _ _ h=>(nv h)) (λ_ _ _ _ _=>zy) (λ_ _ _ _ _=>(XE.ow (lu xv T.bh))))))) ze))))
def nM:EF:=(eJ (λZ=>((Ä (e1 (dH [4] "arrows") (C 0)) Å) Z).bind λS=>match S with|[.lst xs]=>U (iX 0 xs)|_=>L) 2 [1] (gT (È (gV 0) (È (gV 1) Ô))) (tb (e2 (ga Ã) (e1 (dH [0,1,2,3] "goal") (C 1)) (C 2))) (C 0))
def hX:List D->Option D:=Ù ["self","going"]
  (Ê nM)
theorem ur (T:Txt K mg a w):dL P w K mg base fJ 1 a.aj a.ak ["self","going"] (iH K a.ct [0,0] 0 hX) :=
 lf (Y:=mO [0,0]) T.y.fn λ_ _ _ _ _ _ hr nd=>(zh (yn (pO (tf (N:=["number","arrow","going"]) (om:=mO [0,0]) (cap:=[1]) (own:=2) (WW (n:=0) T.bu (za (lu xv T.bg) ze)) (λ_ _ _ _ _ h=>(Ge (n:=1) rfl (xi (nv h) (xi (nv h) u3)))) (λ_ _ _ _ _=>(uk (pY hr (lu xv T.bi) xv))) (λ_ _ _ _ _=>(XE.ow xv))))))
def mw:List D->Option D:=Ù ["self"]
  (Ê (cl gD (Ä (eN ee (Ä (e1 (dH [4] "names") (C 0)) Å)) (Ä (e1 (dH [4] "arrows") (C 0)) Å))))
theorem Uj (T:Txt K mg a w):dL P w K mg base fJ 2 a.al a.am ["self"] (iH K a.ct [0] 0 mw) :=
 lf (Y:=mO [0]) T.z.fn λ_ _ _ _ _ _ hr nd=>(zh (yn (lz T.u (vm T) hr (za (nO T.bx (za (lu xv T.bj) ze)) (za (lu xv T.bg) ze)))))
def jF:EF:=(eJ (λZ=>((C 0) Z).bind GF) 1 [] (gV 0) fW (cl kY (Ä (C 0) Å)))
def gZ:List D->Option D:=Ù ["word"]
  (Ç (Ò (å (tb (e2 tL (eN ee (Ä (C 0) Å)) (eC (.int 1)))) (å (tb (e2 wM (eN ee (Ä (C 0) Å)) (eC (.int 15)))) (Þ (tb (eN lm (Ä jF Å)))))) (Ê (eC (.bl Ã))) É)
  (Ê (eB (å (tb (e2 (ga Ã) (C 0) (eC (.str "0")))) (tb (e2 (ga Â) (e2 dX (C 0) (eC (.int 0))) (eC (.str "0"))))))))
theorem v5 (T:Txt K mg a w):dL P w K mg base fJ 2 a.an a.ao ["word"] (iH K a.ct [0] 0 gZ) :=
 lf (Y:=mO [0]) T.aa.fn λ_ _ _ _ _ _ hr nd=>(zc (jY (XW.t (wa (zR (nO T.bx (za xv ze)) dY) (wa (B3 (nO T.bx (za xv ze)) (Ea T.bG)) (xq (wc (yt (yu (k:=0) (wm rfl) um rfl T.bs DI (za (fP (tf (N:=["sign"]) (om:=mO [0]) (cap:=[]) (own:=1) (XI.cc (Lh (n:=0) xv)) (λ_ _ _ _ _ h=>(nv h)) (λ_ _ _ _ _=>zy) (λ_ _ _ _ _=>(lz T.p (qm T) hr (za xv ze))))) ze)))))))) (iG (yz (n:=0)))) (zh (iG (Lw (Ċ hr xv (zn (n:=0))) (vi (k:=0) (SQ hr (iY xv dY) (zn (n:=0))))))))
def jL:EF:=(eJ (Ý (C 0)) 1 [] (gV 0) fW (cl gZ (Ä (C 0) Å)))
def kN:List D->Option D:=Ù ["words"]
  (Ê (eN lm (Ä jL Å)))
theorem SW (T:Txt K mg a w):dL P w K mg base fJ 3 a.ap a.aq ["words"] (iH K a.ct [0] 0 kN) :=
 lf (Y:=mO [0]) T.ab.fn λ_ _ _ _ _ _ hr nd=>(zh (iG (yu (k:=0) (wm rfl) um rfl T.bs DI (za (fP (tf (N:=["word"]) (om:=mO [0]) (cap:=[]) (own:=1) (yf (n:=0) xv) (λ_ _ _ _ _ h=>(nv h)) (λ_ _ _ _ _=>zy) (λ_ _ _ _ _=>(lz T.aa (v5 T) hr (za xv ze))))) ze))))
def fI:List D->Option D:=Ù ["words"]
  (Ç (Ò (tb (e2 (ga Ã) (e2 dX (C 0) (eC (.int 0))) (eC (.str "ride")))) (Ê (eB (ß (tb (e2 (ga Ã) (eN ee (Ä (C 0) Å)) (eC (.int 4)))) (tb (cl gZ (Ä (e2 dX (C 0) (eC (.int 3))) Å)))))) É)
  (Ç (Ò (å (tb (e2 (ga Ã) (e2 dX (C 0) (eC (.int 0))) (eC (.str "wait")))) (tb (e2 (ga Ã) (e2 dX (C 0) (eC (.int 0))) (eC (.str "back"))))) (Ê (eB (ß (tb (e2 (ga Ã) (eN ee (Ä (C 0) Å)) (eC (.int 5)))) (tb (cl kN (Ä (λZ=>((C 0) Z).bind λd=>((Û (eC (.int 3))) Z).bind λl=>(î Z).bind λh=>d7 d l h) Å)))))) É)
  (Ç (Ò (tb (e2 (ga Ã) (e2 dX (C 0) (eC (.int 0))) (eC (.str "line")))) Ú É)
  (Ê (eC (.bl Ã))))))
theorem jy (T:Txt K mg a w):dL P w K mg base fJ 4 a.ar a.au ["words"] (iH K a.ct [0] 0 fI) :=
 lf (Y:=mO [0]) T.ac.fn λ_ _ _ _ _ _ hr nd=>(zc (jY (pY hr (iY xv dY) (zn (n:=0))) (iG (ue (Ċ hr (nO T.bx (za xv ze)) dY) (vi (k:=0) (xc T.aa (v5 T) hr (za (iY xv dY) ze)))))) (zc (jY (XW.t (wa (pY hr (iY xv dY) (zn (n:=0))) (xq (pY hr (iY xv dY) (zn (n:=0)))))) (iG (ue (Ċ hr (nO T.bx (za xv ze)) dY) (vi (k:=0) (xc T.ab (SW T) hr (za (fP (xb (n:=0) (by decide) xv (xl dY) ju)) ze)))))) (zc (jY (pY hr (iY xv dY) (zn (n:=0))) xj) (zh (iG (yz (n:=0)))))))
def gR:List D->Option D:=Ù ["words"]
  (Ê (ü (tb (e2 (ga Ã) (e2 dX (C 0) (eC (.int 0))) (eC (.str "line")))) Ax (λZ=>((C 0) Z).bind λd=>((Û (eC (.int 1))) Z).bind λl=>((Û (eC (.int 3))) Z).bind λh=>d7 d l h)))
theorem Tc (T:Txt K mg a w):dL P w K mg base fJ 1 a.av a.aw ["words"] (iH K a.ct [0] 0 gR) :=
 lf (Y:=mO [0]) T.ad.fn λ_ _ _ _ _ _ hr nd=>(zh (iG (DN (pY hr (iY xv dY) (zn (n:=0))) (WH (n:=0)) (fP (xb (n:=0) (by decide) xv (xl dY) (xl dY))))))
def hJ:SF:=(Ò (tb (e2 (ð Â) (C 2) (C 1))) Ú É)
def gb:List D->Option D:=Ù ["told","names","name"]
  (Ø (Ý (C 0)) (gV 2) hJ)
theorem jz (T:Txt K mg a w):dL P w K mg base fJ 1 a.ax a.ay ["told","names"] (iH K a.ct [0,0] 0 gb) :=
 lf (Y:=mO [0,0,0]) T.ae.fn λ_ _ _ _ _ _ hr nd=>(zh (xF (vq xv) (n8 nd) (zh (jY (vh (k:=0) qc Ej xv xv (by with_unfolding_all rfl)) xj))))
def fO:List D->Option D:=Ù ["words","names","start","goal"]
  (Ç (Ì 2 (e2 AK (C 1) (e2 dX (C 0) (eC (.int 1)))))
  (Ç (Ì 3 (e2 AK (C 1) (e2 dX (C 0) (eC (.int 2)))))
  (Ç (Ò (tb (e2 (ga Ã) (e2 dX (C 0) (eC (.int 0))) (eC (.str "ride")))) (Ê (cl (jB 1) (Ä (C 2) (Ä (C 3) (Ä (eN mR (Ä (e2 dX (C 0) (eC (.int 3))) Å)) Å))))) É)
  (Ç (Ò (tb (e2 (ga Ã) (e2 dX (C 0) (eC (.int 0))) (eC (.str "wait")))) (Ê (cl (jC 2) (Ä (C 2) (Ä (C 3) (Ä (eN mR (Ä (e2 dX (C 0) (eC (.int 3))) Å)) (Ä (eN mR (Ä (e2 dX (C 0) (eC (.int 4))) Å)) Å)))))) É)
  (Ê (cl (jA 3) (Ä (C 2) (Ä (C 3) (Ä (eN mR (Ä (e2 dX (C 0) (eC (.int 3))) Å)) (Ä (eN mR (Ä (e2 dX (C 0) (eC (.int 4))) Å)) Å))))))))))
theorem Td (T:Txt K mg a w):dL P w K mg base fJ 4 a.az a.aA ["words","names"] (iH K a.ct [0,0] 0 fO) :=
 lf (Y:=mO [0,0,0,0]) T.af.fn λ_ _ _ _ _ _ hr nd=>(zc (pZ nd (N6 (k:=0) xv (iY xv dY))) (zc (pZ nd (N6 (k:=0) xv (iY xv dY))) (zc (jY (pY hr (iY xv dY) (zn (n:=0))) (yn (pO (CP T.c T.j (uh T) hr (za xv (za xv (za (zq (k:=0) yg yw rfl T.bv wj (za (iY xv dY) ze)) ze))))))) (zc (jY (pY hr (iY xv dY) (zn (n:=0))) (yn (pO (CP T.d T.k (ui T) hr (za xv (za xv (za (zq (k:=0) yg yw rfl T.bv wj (za (iY xv dY) ze)) (za (zq (k:=0) yg yw rfl T.bv wj (za (iY xv dY) ze)) ze)))))))) (zh (yn (pO (CP T.e T.m (uj T) hr (za xv (za xv (za (zq (k:=0) yg yw rfl T.bv wj (za (iY xv dY) ze)) (za (zq (k:=0) yg yw rfl T.bv wj (za (iY xv dY) ze)) ze))))))))))))
def fT:List D->Option D:=Ù ["words","names"]
  (Ç (Ò (tb (e2 (ga Ã) (e2 dX (C 0) (eC (.int 0))) (eC (.str "line")))) Ú É)
  (Ê (λZ=>((Ä (cl fO (Ä (C 0) (Ä (C 1) Å))) Å) Z).bind λS=>U (.lst S))))
theorem qx (T:Txt K mg a w):dL P w K mg base fJ 5 a.aB a.aC ["words","names"] (iH K a.ct [0,0] 1 fT) :=
 lf (Y:=mO [0,0]) T.ag.fn λ_ _ _ _ _ _ hr nd=>(zc (jY (pY hr (iY xv dY) (zn (n:=0))) xj) (zh (yn (xg (k:=0) (zj (lz T.af (Td T) hr (za xv (za xv ze))) zx)))))
def su:List D->Option D:=Ù ["when","more"]
  (Ç (Ò (tb (e2 (pQ Ã) (C 0) (eC .non))) (Ê (eC .non)) É)
  (Ê (e2 dF (C 0) (C 1))))
theorem Xo (T:Txt K mg a w):dL P w K mg base fJ 1 a.aD a.aE ["when","more"] (iH K a.ct [0,0] 0 su) :=
 lf (Y:=mO [0,0]) T.ah.fn λ_ _ _ _ _ _ hr nd=>(zc (jY (zQ xv rL) (iG rL)) (zh (yn (pO (ky xv xv)))))
def qA:List D->Option D:=Ù ["one","other"]
  (Ç (Ò (tb (e2 (pQ Ã) (C 0) (eC .non))) (Ê (C 1)) É)
  (Ç (Ò (tb (e2 (pQ Ã) (C 1) (eC .non))) (Ê (C 0)) É)
  (Ê (eN uB (Ä (C 0) (Ä (C 1) Å))))))
theorem V4 (T:Txt K mg a w):dL P w K mg base fJ 1 a.aF a.aG ["one","other"] (iH K a.ct [0,0] 0 qA) :=
 lf (Y:=mO [0,0]) T.ai.fn λ_ _ _ _ _ _ hr nd=>(zc (jY (zQ xv rL) (iG xv)) (zc (jY (zQ xv rL) (iG xv)) (zh (iG (yu (k:=0) (Kj rfl) Kw rfl T.bA Ef (za xv (za xv ze)))))))
def p7:SF:=Ú
def jJ:List D->Option D:=Ù ["told","greatest","going","number","amount"]
  (Ç (Ì 1 (eC (.dT [] [])))
  (Ç (Ø (Ý (C 0)) (gT (È (gV 2) (È (gV 3) (È (gV 4) Ô)))) p7)
  (Ê (C 1))))
theorem qy (T:Txt K mg a w):dL P w K mg base fJ 1 a.aH a.aI ["told"] (iH K a.ct [0] 0 jJ) :=
 lf (Y:=mO [0,1,0,0,0]) T.aj.fn λ_ _ _ _ _ _ hr nd=>(zc (p4 nd WR) (zc (xF (vq xv) (Gk (n:=0) rfl (ye (n8 nd) (ye (n8 nd) (ye (n8 nd) jr)))) (zh xj)) (zh (K3 (i:=1) rfl))))
def oN:EF:=(eJ (λZ=>((Ä (C 2) Å) Z).bind jS) 1 [0] (gV 0) fW (e2 sV (λZ=>((Ä (eC (.int 0)) Å) Z).bind λS=>U (.lst S)) (eN ee (Ä (e1 (dH [4] "names") (C 1)) Å))))
def km:List D->Option D:=Ù ["net","was","depth"]
  (Ç (Ì 2 (λZ=>((C 0) Z).bind λo=>n4 4 "most_behind" eM o []))
  (Ç (Ò (tb (e2 (pQ Ã) (C 1) (eC .non))) (Ê oN) É)
  Ú))
theorem Tx (T:Txt K mg a w):dL P w K mg base fJ 2 a.aJ a.aK ["net","was"] (iH K a.ct [0,0] 2 km) :=
 lf (Y:=mO [0,0,0]) T.ak.fn λ_ _ _ _ _ _ hr nd=>(zc (p4 nd (u1 (n:=0) (c0:=4) (nd:=[]) (sD:=[]) xv T.f.cl T.x.me (yx T) (hr.mono (by decide)) T.x.bd .nil (λ_ _=>.nil))) (zc (jY (zQ xv rL) (yn (tf (N:=["number","net"]) (om:=mO [0]) (cap:=[0]) (own:=1) (XI.cc (yh (n:=0) T.bB (za xv ze))) (λ_ _ _ _ _ h=>(nv h)) (λ_ _ _ _ _=>zy) (λ_ _ _ _ _=>(Ll (xg (k:=0) (zj (XE.ow dY) zx)) (nO T.bx (za (lu xv T.bj) ze))))))) (zh xj)))
def iI:SF:=(Ç (Ì 6 (e2 dX (e1 (dH [4] "arrows") (C 0)) (C 5)))
  (Ì 4 (cl qA (Ä (C 4) (Ä (cl su (Ä (e2 dX (e2 dX (C 1) (e2 nc (e1 xJ (eC (.int 1))) (e1 (dH [0,1,2,3] "behind") (C 6)))) (e1 (dH [0,1,2,3] "start") (C 6))) (Ä (e1 (dH [0,1,2,3] "time") (C 6)) Å))) Å)))))
def ig:List D->Option D:=Ù ["net","rows","numbers","floor","when","number","arrow"]
  (Ç (Ì 4 (C 3))
  (Ç (Ø (Ý (C 2)) (gV 5) iI)
  (Ê (C 4))))
theorem ut (T:Txt K mg a w):dL P w K mg base fJ 2 a.aL a.aM ["net","rows","numbers","floor"] (iH K a.ct [0,2,0,0] 0 ig) :=
 lf (Y:=[.ow 0,.al 2,.ow 0,.ow 0,.ow 0,.ow 0,.ow 0]) T.al.fn λ_ _ _ _ _ _ hr nd=>(zc (pZ nd xv) (zc (xF (vq xv) (n8 nd) (zc (pZ nd (iY (lu xv T.bg) xv)) (zh (p4 nd (lz T.ai (V4 T) hr (za xv (za (xc T.ah (Xo T) hr (za (AN (Gx (n:=2) Ed Gm (Gh 1 2) (rY (Gn (k:=0) dY) (lu xv T.bh)) (λ_ _=>rfl)) (lu xv T.bm)) (za (lu xv T.bo) ze))) ze))))))) (zh (iG xv))))
def hU:SF:=(Ç (Ì 10 (λZ=>((C 5) Z).bind λx=>((λZ=>((Ä (C 9) (Ä (C 8) Å)) Z).bind λS=>U (.tup S)) Z).bind λy=>(sE x y).bind λr=>U (r.getD .non)))
  (xM 4 (e1 xJ (eC (.int 1))) (C 9) (cl ig (Ä (C 0) (Ä (C 4) (Ä (e2 dX (C 6) (C 9)) (Ä (C 10) Å)))))))
def jO:SF:=(Ç (ô 4 (e2 sV (λZ=>((Ä (eC .non) Å) Z).bind λS=>U (.lst S)) (eN ee (Ä (e1 (dH [4] "names") (C 0)) Å))))
  (Ø (Ý (C 7)) (gV 9) hU))
def jR:EF:=(eJ (λZ=>((Ä (eN ee (Ä (e1 (dH [4] "names") (C 0)) Å)) Å) Z).bind jS) 1 [0] (gV 0) fW (λZ=>((C 1) Z).bind λo=>((Ä (C 0) Å) Z).bind λS=>n4 4 "into" hX o (S++[])))
def iU:List D->Option D:=Ù ["net","rounds","was","floors","rows","greatest","numbers","order","number","going","floor"]
  (Ç (Ì 4 (cl km (Ä (C 0) (Ä (C 2) Å))))
  (Ç (Ì 5 (cl jJ (Ä (ü (tb (e2 (pQ Ã) (C 3) (eC .non))) (λZ=>(Å Z).bind λS=>U (.lst S)) (C 3)) Å)))
  (Ç (Ì 6 jR)
  (Ç (Ì 7 (λZ=>((C 0) Z).bind λo=>n4 4 "order" mw o []))
  (Ç (Ø (λZ=>((Ä (C 1) Å) Z).bind jS) (gV 8) jO)
  (Ê (C 4)))))))
theorem j0 (T:Txt K mg a w):dL P w K mg base fJ 3 a.aN a.aO ["net","rounds","was","floors"] (iH K a.ct [0,0,0,0] 0 iU) :=
 lf (Y:=mO [0,0,0,0,2,0,0,0,0,0,0]) T.am.fn λ_ _ _ _ _ _ hr nd=>(zc (p4 nd (lz T.ak (Tx T) hr (za xv (za xv ze)))) (zc (p4 nd (lz T.aj (qy T) hr (za (DN (zQ xv rL) (fP (xg (k:=0) zx)) xv) ze))) (zc (AY (k:=0) (N:=["going","net"]) (om:=mO [0]) (cap:=[0]) (own:=1) nd (XI.cc (yh (n:=0) T.bB (za (nO T.bx (za (lu xv T.bj) ze)) ze))) (λ_ _ _ _ _ h=>(nv h)) (λ_ _ _ _ _=>zy) (λ_ _ _ _ _=>(KZ (n:=0) (c0:=4) (ns:=[0]) (nd:=[]) (sD:=[]) xv T.f.cl T.y.me (ur T) (hr.mono (by decide)) T.y.bd .nil (λ_ _=>.nil) (za xv ze)))) (zc (p4 nd (u1 (n:=0) (c0:=4) (nd:=[]) (sD:=[]) xv T.f.cl T.z.me (Uj T) (hr.mono (by decide)) T.z.bd .nil (λ_ _=>.nil))) (zc (xF (yh (n:=0) T.bB (za xv ze)) (n8 nd) (zc (u5 4 rfl (Ll (xg (k:=0) (zj (XE.ow rL) zx)) (nO T.bx (za (lu xv T.bj) ze)))) (zh (xF (vq xv) (n8 nd) (zc (pZ nd (YI (n:=0) (Lv hr) (Gh 5 0) (fP (Eh (zj (XE.ow xv) (zj (XE.ow xv) zx)))) ⟨rfl,rfl,rfl,rfl⟩)) (zh (W7 4 rfl (Gn (k:=0) dY) xv (λ_ _=>rfl) (xc T.al (ut T) hr (za xv (za xv (za (iY xv xv) (za xv ze)))))))))))) (zh (K3 (i:=4) rfl)))))))
def sQ:List D->Option D:=Ù ["net","rounds","was","floors"]
  (Ê (λZ=>((cl iU (Ä (C 0) (Ä (C 1) (Ä (C 2) (Ä (C 3) Å))))) Z).bind λd=>((Û (λZ=>((C 0) Z).bind λo=>n4 4 "most_behind" eM o [])) Z).bind λl=>(î Z).bind λh=>d7 d l h))
theorem PQ (T:Txt K mg a w):dL P w K mg base fJ 4 a.aP a.aQ ["net","rounds","was","floors"] (iH K a.ct [0,0,0,0] 0 sQ) :=
 lf (Y:=mO [0,0,0,0]) T.an.fn λ_ _ _ _ _ _ hr nd=>(zh (yn (pO (xb (n:=0) (by decide) (xc T.am (j0 T) hr (za xv (za xv (za xv (za xv ze))))) (xl (fP (u1 (n:=0) (c0:=4) (nd:=[]) (sD:=[]) xv T.f.cl T.x.me (yx T) (hr.mono (by decide)) T.x.bd .nil (λ_ _=>.nil)))) ju))))
def sT:EF:=(eJ (λZ=>((Ä (e2 dX (C 0) (C 1)) (Ä (e2 dX (C 0) (e2 dF (C 1) (C 2))) Å)) Z).bind zS) 2 [] (gT (È (gV 0) (È (gV 1) Ô))) fW (e2 nc (C 1) (C 0)))
def kh:List D->Option D:=Ù ["rows","first","count"]
  (Ê sT)
theorem Km (T:Txt K mg a w):dL P w K mg base fJ 1 a.aR a.aS ["rows","first","count"] (iH K a.ct [0,0,0] 1 kh) :=
 lf (Y:=mO [0,0,0]) T.aq.fn λ_ _ _ _ _ _ hr nd=>(zh (yn (tf (N:=["before","after"]) (om:=mO [0,0]) (cap:=[]) (own:=2) (OS (n:=0) T.bD (za (iY xv xv) (za (iY xv (fP (ky xv xv))) ze))) (λ_ _ _ _ _ h=>(Ge (n:=1) rfl (xi (nv h) (xi (nv h) u3)))) (λ_ _ _ _ _=>zy) (λ_ _ _ _ _=>(XE.ow (rY xv xv))))))
def qC:EF:=(eJ (λZ=>((Ä (C 1) (Ä (e2 dF (C 2) (eC (.int 1))) Å)) Z).bind rZ) 1 [0,3,4] (gV 0) fW (e2 (ga Ã) (cl kh (Ä (C 1) (Ä (C 0) (Ä (C 2) Å)))) (C 3)))
def nI:List D->Option D:=Ù ["rows","first","last","count","lengths"]
  (Ê (eN lm (Ä qC Å)))
theorem UD (T:Txt K mg a w):dL P w K mg base fJ 2 a.aT a.aU ["rows","first","last","count","lengths"] (iH K a.ct [0,0,0,0,1] 0 nI) :=
 lf (Y:=[.ow 0,.ow 0,.ow 0,.ow 0,.al 1]) T.ar.fn λ_ _ _ _ _ _ hr nd=>(zh (iG (yu (k:=0) (wm rfl) um rfl T.bs DI (za (fP (tf (N:=["number","rows","count","lengths"]) (om:=mO [0]) (cap:=[0,3,4]) (own:=1) (XI.cc (u4 (n:=0) T.bB (za xv (za (fP (ky xv dY)) ze)))) (λ_ _ _ _ _ h=>(nv h)) (λ_ _ _ _ _=>zy) (λ_ _ _ _ _=>(XE.ow (Ċ hr (xc T.aq (Km T) hr (za xv (za xv (za xv ze)))) xv))))) ze))))
def lX:EF:=(eJ (Ý (e1 (dH [4] "arrows") (C 0))) 1 [1] (gV 0) fW (e2 zH (e2 dX (C 1) (e1 (dH [0,1,2,3] "start") (C 0))) (e2 dX (C 1) (e1 (dH [0,1,2,3] "goal") (C 0)))))
def iT:List D->Option D:=Ù ["net","lengths"]
  (Ê (eN lm (Ä lX Å)))
theorem j5 (T:Txt K mg a w):dL P w K mg base fJ 1 a.aV a.aW ["net","lengths"] (iH K a.ct [0,1] 0 iT) :=
 lf (Y:=[.ow 0,.al 1]) T.au.fn λ_ _ _ _ _ _ hr nd=>(zh (iG (yu (k:=0) (wm rfl) um rfl T.bs DI (za (fP (tf (N:=["arrow","lengths"]) (om:=mO [0]) (cap:=[1]) (own:=1) (yf (n:=0) (lu xv T.bg)) (λ_ _ _ _ _ h=>(nv h)) (λ_ _ _ _ _=>zy) (λ_ _ _ _ _=>(XE.ow (B9 (AN xv (lu xv T.bm)) (AN xv (lu xv T.bi))))))) ze))))
def fm:SF:=(Ò (tb (e2 (ga Ã) (e2 dF (e2 dX (e2 dX (C 0) (e2 nc (C 3) (e1 (dH [0,1,2,3] "behind") (C 4)))) (e1 (dH [0,1,2,3] "start") (C 4))) (e1 (dH [0,1,2,3] "time") (C 4))) (e2 dX (e2 dX (C 0) (C 3)) (C 2)))) (Ê (eC (.bl Â))) É)
def lF:List D->Option D:=Ù ["rows","carriers","going","number","arrow"]
  (Ç (Ø (Ý (C 1)) (gV 4) fm)
  (Ê (eC (.bl Ã))))
theorem Tz (T:Txt K mg a w):dL P w K mg base fJ 1 a.aX a.aY ["rows","carriers","going","number"] (iH K a.ct [0,0,0,0] 0 lF) :=
 lf (Y:=mO [0,0,0,0,0]) T.av.fn λ_ _ _ _ _ _ hr nd=>(zc (xF (vq xv) (n8 nd) (zh (jY (pY hr (fP (ky (iY (iY xv (rY xv (lu xv T.bh))) (lu xv T.bm)) (lu xv T.bo))) (iY (iY xv xv) xv)) (iG (yz (n:=0)))))) (zh (iG (yz (n:=0)))))
def fD:SF:=(Ò (Þ (tb (cl lF (Ä (C 1) (Ä (C 7) (Ä (C 5) (Ä (C 8) Å))))))) (Ê (eC (.bl Ã))) É)
def nU:EF:=(eJ (Ý (C 6)) 1 [4,5] (gV 0) (tb (e2 (ga Ã) (e2 dX (C 1) (e1 (dH [0,1,2,3] "start") (C 0))) (e2 dX (C 1) (C 2)))) (C 0))
def nV:EF:=(eJ (Ý (λZ=>((C 0) Z).bind λo=>((Ä (C 5) Å) Z).bind λS=>n4 4 "into" hX o (S++[]))) 1 [0] (gV 0) fW (e2 dX (e1 (dH [4] "arrows") (C 1)) (C 0)))
def gC:SF:=(Ç (Ì 6 nV)
  (Ç (Ì 7 nU)
  (Ø (λZ=>((Ä (C 2) (Ä (e2 dF (C 3) (eC (.int 1))) Å)) Z).bind rZ) (gV 8) fD)))
def jD:List D->Option D:=Ù ["net","rows","first","last","lengths","going","entering","carriers","number"]
  (Ç (Ø (λZ=>((Ä (eN ee (Ä (e1 (dH [4] "names") (C 0)) Å)) Å) Z).bind jS) (gV 5) gC)
  (Ê (eC (.bl Â))))
theorem SX (T:Txt K mg a w):dL P w K mg base fJ 2 a.aZ a.a0 ["net","rows","first","last","lengths"] (iH K a.ct [0,0,0,0,1] 0 jD) :=
 lf (Y:=[.ow 0,.ow 0,.ow 0,.ow 0,.al 1,.ow 0,.ow 0,.ow 0,.ow 0]) T.aw.fn λ_ _ _ _ _ _ hr nd=>(zc (xF (yh (n:=0) T.bB (za (nO T.bx (za (lu xv T.bj) ze)) ze)) (n8 nd) (zc (AY (k:=0) (N:=["number","net"]) (om:=mO [0]) (cap:=[0]) (own:=1) nd (yf (n:=0) (fP (KZ (n:=0) (c0:=4) (ns:=[0]) (nd:=[]) (sD:=[]) xv T.f.cl T.y.me (ur T) (hr.mono (by decide)) T.y.bd .nil (λ_ _=>.nil) (za xv ze)))) (λ_ _ _ _ _ h=>(nv h)) (λ_ _ _ _ _=>zy) (λ_ _ _ _ _=>(XE.ow (iY (lu xv T.bg) xv)))) (zc (AY (k:=0) (N:=["arrow","lengths","going"]) (om:=mO [0]) (cap:=[4,5]) (own:=1) nd (yf (n:=0) xv) (λ_ _ _ _ _ h=>(nv h)) (λ_ _ _ _ _=>(uk (pY hr (AN xv (lu xv T.bm)) (AN xv xv)))) (λ_ _ _ _ _=>(XE.ow xv))) (zh (xF (u4 (n:=0) T.bB (za xv (za (fP (ky xv dY)) ze))) (n8 nd) (zh (jY (wc (yt (xc T.av (Tz T) hr (za xv (za xv (za xv (za xv ze))))))) (iG (yz (n:=0)))))))))) (zh (iG (yz (n:=0)))))
def oZ:List D->Option D:=Ù ["net","rows","paper","count","first","lengths","settled"]
  (Ç (Ì 3 (Ą (e2 dX (C 2) (eC (.int 0)))))
  (Ç (Ì 4 (Ą (e2 dX (C 2) (eC (.int 1)))))
  (Ç (Ì 5 (e2 Jr (C 2) (eC (.int 2))))
  (Ç (Ì 6 (e2 dF (C 4) (λZ=>((C 0) Z).bind λo=>n4 4 "most_behind" eM o [])))
  (Ç (Ò (å (tb (e2 tL (C 3) (eC (.int 1)))) (å (tb (e2 tL (C 4) (eC (.int 0)))) (å (tb (e2 (ga Â) (eN ee (Ä (C 5) Å)) (eN ee (Ä (e1 (dH [4] "names") (C 0)) Å)))) (tb (e2 tL (eN ee (Ä (C 1) Å)) (e2 dF (C 6) (C 3))))))) (Ê (eC (.bl Ã))) É)
  (Ç (Ò (å (Þ (tb (cl nI (Ä (C 1) (Ä (C 4) (Ä (e2 nc (C 6) (eC (.int 1))) (Ä (C 3) (Ä (C 5) Å)))))))) (Þ (tb (cl iT (Ä (C 0) (Ä (C 5) Å)))))) (Ê (eC (.bl Ã))) É)
  (Ê (cl jD (Ä (C 0) (Ä (C 1) (Ä (C 6) (Ä (e2 nc (e2 dF (C 6) (C 3)) (eC (.int 1))) (Ä (C 5) Å)))))))))))))
theorem Vf (T:Txt K mg a w):dL P w K mg base fJ 3 a.a1 a.a2 ["net","rows","paper"] (iH K a.ct [0,0,2] 0 oZ) :=
 lf (Y:=[.ow 0,.ow 0,.al 2,.ow 0,.ow 0,.al 1,.ow 0]) T.ax.fn λ_ _ _ _ _ _ hr nd=>(zc (pZ nd (XO.sh (n:=0) (k:=0) (DK (Gx (n:=2) Ed Gm (Gh 2 2) dY (λ_ _=>rfl))))) (zc (pZ nd (XO.sh (n:=0) (k:=0) (DK (Gx (n:=2) Ed Gm (Gh 2 2) dY (λ_ _=>rfl))))) (zc (WE (i:=5) (j:=2) rfl rfl dY nd (λ_ _=>rfl)) (zc (p4 nd (pO (ky xv (fP (u1 (n:=0) (c0:=4) (nd:=[]) (sD:=[]) xv T.f.cl T.x.me (yx T) (hr.mono (by decide)) T.x.bd .nil (λ_ _=>.nil)))))) (zc (jY (XW.t (wa (zR xv dY) (wa (zR xv dY) (wa (AX hr (nO T.bx (za xv ze)) (nO T.bx (za (lu xv T.bj) ze))) (xq (zR (nO T.bx (za xv ze)) (fP (ky xv xv)))))))) (iG (yz (n:=0)))) (zc (jY (XW.t (wa (wc (yt (xc T.ar (UD T) hr (za xv (za xv (za (rY xv dY) (za xv (za xv ze)))))))) (xq (wc (yt (xc T.au (j5 T) hr (za xv (za xv ze)))))))) (iG (yz (n:=0)))) (zh (yn (lz T.aw (SX T) hr (za xv (za xv (za xv (za (rY (fP (ky xv xv)) dY) (za xv ze))))))))))))))
def iR:SF:=(Ò (tb (e2 (ga Ã) (λZ=>((C 0) Z).bind λo=>((Ä (C 1) Å) Z).bind λS=>n4 4 "into" hX o (S++[])) (λZ=>(Å Z).bind λS=>U (.lst S)))) Ú É)
def kl:List D->Option D:=Ù ["net","going"]
  (Ø (λZ=>((Ä (eN ee (Ä (e1 (dH [4] "names") (C 0)) Å)) Å) Z).bind jS) (gV 1) iR)
theorem Te (T:Txt K mg a w):dL P w K mg base fJ 2 a.a3 a.a4 ["net"] (iH K a.ct [0] 0 kl) :=
 lf (Y:=mO [0,0]) T.ay.fn λ_ _ _ _ _ _ hr nd=>(zh (xF (yh (n:=0) T.bB (za (nO T.bx (za (lu xv T.bj) ze)) ze)) (n8 nd) (zh (jY (pY hr (fP (KZ (n:=0) (c0:=4) (ns:=[0]) (nd:=[]) (sD:=[]) xv T.f.cl T.y.me (ur T) (hr.mono (by decide)) T.y.bd .nil (λ_ _=>.nil) (za xv ze))) (fP (xg (k:=0) zx))) xj))))
def jN:SF:=(AW 4 (i2 λi j=>.int (i-j)) (eC (.int 1)))
def iS:List D->Option D:=Ù ["rows","known","count","lengths","first"]
  (Ç (Ì 4 (C 1))
  (Ç (qV (ß (tb (e2 wM (C 4) (eC (.int 0)))) (tb (e2 (ga Ã) (cl kh (Ä (C 0) (Ä (e2 nc (C 4) (eC (.int 1))) (Ä (C 2) Å)))) (C 3)))) jN)
  (Ê (C 4))))
theorem j6 (T:Txt K mg a w):dL P w K mg base fJ 2 a.a5 a.a6 ["rows","known","count","lengths"] (iH K a.ct [0,0,0,1] 0 iS) :=
 lf (Y:=[.ow 0,.ow 0,.ow 0,.al 1,.ow 0]) T.az.fn λ_ _ _ _ _ _ hr nd=>(zc (pZ nd xv) (zc (ML (XW.t (Eg (B3 xv dY) (jp (pY hr (xc T.aq (Km T) hr (za xv (za (rY xv dY) (za xv ze)))) xv)))) (zh (PK Pt rfl nd rfl (Or.inl rfl) dY))) (zh (iG xv))))
def jI:SF:=(Ç (Ì 6 (e2 nc (C 4) (C 5)))
  (Ç (Ì 7 (cl kh (Ä (C 3) (Ä (C 6) (Ä (C 5) Å)))))
  (Ò (tb (cl oZ (Ä (C 0) (Ä (C 3) (Ä (λZ=>((Ä (C 5) (Ä (C 6) (Ä (C 7) Å))) Z).bind λS=>U (.tup S)) Å))))) (Ê (λZ=>(C 7 Z).bind λ_=>((Ä (Ą (C 5)) (Ä (Ą (cl iS (Ä (C 3) (Ä (C 6) (Ä (C 5) (Ä (C 7) Å)))))) (Ä (C 7) Å))) Z).bind λS=>U (.tup S))) É)))
def ix:List D->Option D:=Ù ["net","most","was","rows","spare_rounds","count","last","lengths"]
  (Ç (ì (cl kl (Ä (C 0) Å)))
  (Ç (Ì 3 (λZ=>((Ä (C 0) (Ä (C 1) (Ä (C 2) Å))) Z).bind λS=>sQ (S++[.non])))
  (Ç (Ì 4 (e2 nc (C 1) (λZ=>((C 0) Z).bind λo=>n4 4 "most_behind" eM o [])))
  (Ç (Ø (λZ=>((Ä (eC (.int 1)) (Ä (e2 dF (C 4) (eC (.int 1))) Å)) Z).bind rZ) (gV 5) jI)
  (Ê (Ą (eC .non)))))))
theorem SY (T:Txt K mg a w):dL P w K mg base fJ 5 a.a7 a.a8 ["net","most","was"] (iH K a.ct [0,0,0] 2 ix) :=
 lf (Y:=mO [0,0,0,0,0,0,0,1]) T.aA.fn λ_ _ _ _ _ _ hr nd=>(zc (OF (xc T.ay (Te T) hr (za xv ze))) (zc (p4 nd (Hw (sD:=[.non]) (ns:=[0,0,0]) (nd:=[0]) (PQ T) (hr.mono (by decide)) rfl T.an.mgx T.an.fn.kp T.ao.choose_spec.2.2 T.ao.choose_spec.2.1 (λ_ _=>(.cons (Al.of .non) .nil)) (za xv (za xv (za xv ze))))) (zc (pZ nd (rY xv (fP (u1 (n:=0) (c0:=4) (nd:=[]) (sD:=[]) xv T.f.cl T.x.me (yx T) (hr.mono (by decide)) T.x.bd .nil (λ_ _=>.nil))))) (zc (xF (u4 (n:=0) T.bB (za dY (za (fP (ky xv dY)) ze))) (n8 nd) (zc (pZ nd (rY xv xv)) (zc (p4 nd (lz T.aq (Km T) hr (za xv (za xv (za xv ze))))) (zh (jY (yt (xc T.ax (Vf T) hr (za xv (za xv (za (Yr (n:=1) (za xv (za xv (za xv ze)))) ze))))) (W9 (i:=7) rfl (N7 (DK xv) (N7 (DK (xc T.az (j6 T) hr (za xv (za xv (za xv (za xv ze)))))) (Yp (i:=7)))))))))) (zh (yn (DK rL)))))))
def mz:List D->Option D:=Ù ["time"]
  (Ê (ü (tb (e2 (pQ Ã) (C 0) (eC .non))) (eC (.str "-")) (eN iK (Ä (C 0) Å))))
theorem Uk (T:Txt K mg a w):dL P w K mg base fJ 1 a.a9 a.ba ["time"] (iH K a.ct [0] 0 mz) :=
 lf (Y:=mO [0]) T.aC.fn λ_ _ _ _ _ _ hr nd=>(zh (iG (DN (zQ xv rL) (zn (n:=0)) (zq (k:=0) yb wn rfl T.bC w6 (za xv ze)))))
def sU:EF:=(eJ (Ý (C 0)) 1 [] (gV 0) fW (eN ee (Ä (C 0) Å)))
def oI:List D->Option D:=Ù ["words"]
  (Ê (eN uQ (Ä sU Å)))
theorem Nr (T:Txt K mg a w):dL P w K mg base fJ 1 a.bb a.bc ["words"] (iH K a.ct [0] 0 oI) :=
 lf (Y:=mO [0]) T.aD.fn λ_ _ _ _ _ _ hr nd=>(zh (iG (yu (k:=0) (Ki rfl) K1 rfl T.bA Ef (za (fP (tf (N:=["word"]) (om:=mO [0]) (cap:=[]) (own:=1) (yf (n:=0) xv) (λ_ _ _ _ _ h=>(nv h)) (λ_ _ _ _ _=>zy) (λ_ _ _ _ _=>(XE.ow (nO T.bx (za xv ze)))))) ze))))
def mE:EF:=(eJ (Ý (C 2)) 1 [3] (gV 0) fW (e2 (xL Txt.zfill) (C 0) (C 1)))
def mF:EF:=(eJ (λZ=>((Ä (C 1) Å) Z).bind jS) 1 [0] (gV 0) fW (eN iK (Ä (e2 dF (C 1) (C 0)) Å)))
def jK:List D->Option D:=Ù ["first","many","words","width"]
  (Ç (Ì 2 mF)
  (Ç (Ì 3 (cl oI (Ä (e2 dF (λZ=>((Ä (eC (.str "round")) Å) Z).bind λS=>U (.lst S)) (C 2)) Å)))
  (Ê (e2 dF (λZ=>((Ä (e2 (xL Txt.ljust) (eC (.str "round")) (C 3)) Å) Z).bind λS=>U (.lst S)) mE))))
theorem qz (T:Txt K mg a w):dL P w K mg base fJ 2 a.bd a.be ["first","many"] (iH K a.ct [0,0] 0 jK) :=
 lf (Y:=mO [0,0,0,0]) T.aE.fn λ_ _ _ _ _ _ hr nd=>(zc (AY (k:=0) (N:=["count","first"]) (om:=mO [0]) (cap:=[0]) (own:=1) nd (XI.cc (yh (n:=0) T.bB (za xv ze))) (λ_ _ _ _ _ h=>(nv h)) (λ_ _ _ _ _=>zy) (λ_ _ _ _ _=>(XE.ow (zq (k:=0) yb wn rfl T.bC w6 (za (fP (ky xv xv)) ze))))) (zc (p4 nd (lz T.aD (Nr T) hr (za (fP (ky (fP (xg (k:=0) (zj (XE.ow (zn (n:=0))) zx))) xv)) ze))) (zh (yn (pO (ky (fP (xg (k:=0) (zj (XE.ow (Wy (k:=0) (zn (n:=0)) xv)) zx))) (fP (tf (N:=["word","width"]) (om:=mO [0]) (cap:=[3]) (own:=1) (yf (n:=0) xv) (λ_ _ _ _ _ h=>(nv h)) (λ_ _ _ _ _=>zy) (λ_ _ _ _ _=>(XE.ow (WD (k:=0) xv xv)))))))))))
def nX:EF:=(eJ (Ý (C 2)) 1 [3] (gV 0) fW (e2 (xL Txt.rjust) (C 0) (C 1)))
def nY:EF:=(eJ (Ý (C 1)) 1 [] (gV 0) fW (cl mz (Ä (C 0) Å)))
def kQ:List D->Option D:=Ù ["name","times","words","width"]
  (Ç (Ì 2 (e2 dF (λZ=>((Ä (C 0) Å) Z).bind λS=>U (.lst S)) nY))
  (Ç (Ì 3 (cl oI (Ä (C 2) Å)))
  (Ê nX)))
theorem SZ (T:Txt K mg a w):dL P w K mg base fJ 2 a.bf a.bg ["name","times"] (iH K a.ct [0,0] 0 kQ) :=
 lf (Y:=mO [0,0,0,0]) T.aF.fn λ_ _ _ _ _ _ hr nd=>(zc (p4 nd (pO (ky (fP (xg (k:=0) (zj (XE.ow xv) zx))) (fP (tf (N:=["time"]) (om:=mO [0]) (cap:=[]) (own:=1) (yf (n:=0) xv) (λ_ _ _ _ _ h=>(nv h)) (λ_ _ _ _ _=>zy) (λ_ _ _ _ _=>(lz T.aC (Uk T) hr (za xv ze)))))))) (zc (p4 nd (lz T.aD (Nr T) hr (za xv ze))) (zh (yn (pO (tf (N:=["word","width"]) (om:=mO [0]) (cap:=[3]) (own:=1) (yf (n:=0) xv) (λ_ _ _ _ _ h=>(nv h)) (λ_ _ _ _ _=>zy) (λ_ _ _ _ _=>(XE.ow (WB (k:=0) xv xv)))))))))
def nW:EF:=(eJ (Ý (C 0)) 1 [1] (gV 0) fW (e2 dX (C 0) (C 1)))
def kO:List D->Option D:=Ù ["columns","place"]
  (Ê (e2 m7 (eC (.str " ")) nW))
theorem S4 (T:Txt K mg a w):dL P w K mg base fJ 1 a.bh a.bi ["columns","place"] (iH K a.ct [0,0] 0 kO) :=
 lf (Y:=mO [0,0]) T.aG.fn λ_ _ _ _ _ _ hr nd=>(zh (iG (Gb (k:=0) (zn (n:=0)) (fP (tf (N:=["column","place"]) (om:=mO [0]) (cap:=[1]) (own:=1) (yf (n:=0) xv) (λ_ _ _ _ _ h=>(nv h)) (λ_ _ _ _ _=>zy) (λ_ _ _ _ _=>(XE.ow (iY xv xv))))))))
def rG:EF:=(eJ (λZ=>((Ä (e2 dF (eN ee (Ä (C 1) Å)) (eC (.int 1))) Å) Z).bind jS) 1 [3] (gV 0) fW (cl kO (Ä (C 1) (Ä (C 0) Å))))
def rH:EF:=(eJ (Ý (C 1)) 1 [4] (gV 0) fW (e2 dX (C 0) (C 1)))
def oC:SF:=(ô 3 (cl kQ (Ä (C 5) (Ä rH Å))))
def oX:List D->Option D:=Ù ["names","rows","first","columns","going","name"]
  (Ç (Ì 3 (λZ=>((Ä (cl jK (Ä (C 2) (Ä (eN ee (Ä (C 1) Å)) Å))) Å) Z).bind λS=>U (.lst S)))
  (Ç (Ø (λZ=>((Ä (C 0) Å) Z).bind λS=>match S with|[.lst xs]=>U (iX 0 xs)|_=>L) (gT (È (gV 4) (È (gV 5) Ô))) oC)
  (ċ 3 (Ê (e2 m7 (eC (.str "\n")) rG)))))
theorem Vg (T:Txt K mg a w):dL P w K mg base fJ 3 a.bj a.bk ["names","rows","first"] (iH K a.ct [0,0,0] 0 oX) :=
 lf (Y:=mO [0,0,0,1,0,0]) T.aH.fn λ_ _ _ _ _ _ hr nd=>(zc (p4 nd (xg (k:=0) (zj (lz T.aE (qz T) hr (za xv (za (nO T.bx (za xv ze)) ze))) zx))) (zc (xF (OK T.bu (za xv ze)) (Gk (n:=1) rfl (ye (n8 nd) (ye (n8 nd) jr))) (zh (u5 3 rfl (lz T.aF (SZ T) hr (za xv (za (fP (tf (N:=["row","going"]) (om:=mO [0]) (cap:=[4]) (own:=1) (yf (n:=0) xv) (λ_ _ _ _ _ h=>(nv h)) (λ_ _ _ _ _=>zy) (λ_ _ _ _ _=>(XE.ow (iY xv xv))))) ze)))))) (Z4 (i:=3) rfl (zh (iG (Gb (k:=0) (zn (n:=0)) (fP (tf (N:=["place","columns"]) (om:=mO [0]) (cap:=[3]) (own:=1) (XI.cc (yh (n:=0) T.bB (za (fP (ky (nO T.bx (za xv ze)) dY)) ze))) (λ_ _ _ _ _ h=>(nv h)) (λ_ _ _ _ _=>zy) (λ_ _ _ _ _=>(lz T.aG (S4 T) hr (za xv (za xv ze))))))))))))
def ie:List D->Option D:=Ù ["word","slot"]
  (Ç (Ò (tb (e2 (pQ Ã) (C 1) (eC .non))) (Ê (eC (.bl Â))) É)
  (Ê (eB (ß (tb (cl gZ (Ä (C 0) Å))) (ß (tb (e2 zH (e2 dX (C 1) (eC (.int 0))) (eN mR (Ä (C 0) Å)))) (tb (e2 zH (eN mR (Ä (C 0) Å)) (e2 dX (C 1) (eC (.int 1))))))))))
theorem TB (T:Txt K mg a w):dL P w K mg base fJ 3 a.bl a.bm ["word","slot"] (iH K a.ct [0,0] 0 ie) :=
 lf (Y:=mO [0,0]) T.aI.fn λ_ _ _ _ _ _ hr nd=>(zc (jY (zQ xv rL) (iG (yz (n:=0)))) (zh (iG (ue (xc T.aa (v5 T) hr (za xv ze)) (ue (B9 (iY xv dY) (zq (k:=0) yg yw rfl T.bv wj (za xv ze))) (vi (k:=0) (B9 (zq (k:=0) yg yw rfl T.bv wj (za xv ze)) (iY xv dY))))))))
def lH:EF:=(eJ (λZ=>((Ä (λZ=>((C 0) Z).bind λd=>((Û (eC (.int 1))) Z).bind λl=>(î Z).bind λh=>d7 d l h) (Ä (C 1) Å)) Z).bind Cb) 2 [] (gT (È (gV 0) (È (gV 1) Ô))) fW (cl ie (Ä (C 0) (Ä (C 1) Å))))
def lV:List D->Option D:=Ù ["words","form"]
  (Ç (Ì 1 (e1 (Dh yk) (e2 dX (C 0) (eC (.int 0)))))
  (Ç (Ò (tb (e2 (ga Â) (eN ee (Ä (C 0) Å)) (e2 dF (eN ee (Ä (C 1) Å)) (eC (.int 1))))) (Ê (eC (.bl Ã))) É)
  (Ê (eN lm (Ä lH Å)))))
theorem UE (T:Txt K mg a w):dL P w K mg base fJ 4 a.bn a.bo ["words"] (iH K a.ct [0] 0 lV) :=
 lf (Y:=mO [0,0]) T.aJ.fn λ_ _ _ _ _ _ hr nd=>(zc (pZ nd (Qb (k:=0) T.bc (iY xv dY))) (zc (jY (AX hr (nO T.bx (za xv ze)) (fP (ky (nO T.bx (za xv ze)) dY))) (iG (yz (n:=0)))) (zh (iG (yu (k:=0) (wm rfl) um rfl T.bs DI (za (fP (tf (N:=["word","slot"]) (om:=mO [0,0]) (cap:=[]) (own:=2) (PP T.bD (za (fP (xb (n:=0) (by decide) xv (xl dY) ju)) (za xv ze))) (λ_ _ _ _ _ h=>(Ge (n:=1) rfl (xi (nv h) (xi (nv h) u3)))) (λ_ _ _ _ _=>zy) (λ_ _ _ _ _=>(lz T.aI (TB T) hr (za xv (za xv ze)))))) ze))))))
def ki:List D->Option D:=Ù ["desk","words"]
  (Ç (Ò (tb (e2 (ga Ã) (e2 dX (C 1) (eC (.int 0))) (eC (.str "goings")))) (Ê (eC (.bl Â))) É)
  (Ç (Ò (å (tb (e2 (pQ Ã) (e1 (dH [5,6] "net") (C 0)) (eC .non))) (ß (tb (e2 (ð Ã) (e2 dX (C 1) (eC (.int 0))) (eC yq))) (tb (e2 (pQ Ã) (e1 (dH [6] "table") (C 0)) (eC .non))))) (Ê (eC (.bl Ã))) É)
  (Ç (Ò (tb (e2 (ga Ã) (e2 dX (C 1) (eC (.int 0))) (eC (.str "plan")))) Ú É)
  (Ç (Ò (tb (e1 (sN Â yk) (e2 dX (C 1) (eC (.int 0))))) (Ê (cl fI (Ä (C 1) Å))) É)
  (Ç (Ò (Þ (tb (cl lV (Ä (C 1) Å)))) (Ê (eC (.bl Ã))) É)
  (Ê (eB (å (tb (e2 (ð Â) (e2 dX (C 1) (eC (.int 0))) (eC zp))) (tb (e2 tL (eN mR (Ä (e2 dX (C 1) (eC (.int 1))) Å)) (eN ee (Ä (e1 (dH [4] "arrows") (e1 (dH [5,6] "net") (C 0))) Å))))))))))))
theorem V5 (T:Txt K mg a w):dL P w K mg base fJ 5 a.bp a.bq ["desk","words"] (iH K a.ct [1,0] 0 ki) :=
 lf (Y:=[.al 1,.ow 0]) T.aK.fn λ_ _ _ _ _ _ hr nd=>(zc (jY (pY hr (iY xv dY) (zn (n:=0))) (iG (yz (n:=0)))) (zc (jY (XW.t (wa (zQ (yY xv T.bk) rL) (xq (XW.t (Eg (vh (k:=0) ux Ej (iY xv dY) (Qa (n:=0) T.bb) (by with_unfolding_all rfl)) (jp (zQ (yY xv T.bn) rL))))))) (iG (yz (n:=0)))) (zc (jY (pY hr (iY xv dY) (zn (n:=0))) xj) (zc (jY (U7 T.bc (iY xv dY)) (yn (lz T.ac (jy T) hr (za xv ze)))) (zc (jY (wc (yt (xc T.aJ (UE T) hr (za xv ze)))) (iG (yz (n:=0)))) (zh (iG (Lw (DJ (k:=0) qc Ej (iY xv dY) (Qa (n:=0) T.ba) (by with_unfolding_all rfl)) (vi (k:=0) (SO (zq (k:=0) yg yw rfl T.bv wj (za (iY xv dY) ze)) (nO T.bx (za (lu (yY xv T.bk) T.bg) ze))))))))))))
def lW:EF:=(eJ (λZ=>((Ä (λZ=>((C 0) Z).bind λd=>((Û (eC (.int 1))) Z).bind λl=>(î Z).bind λh=>d7 d l h) (Ä (e1 (Dh yk) (e2 dX (C 0) (eC (.int 0)))) Å)) Z).bind Cb) 2 [] (gT (È (gV 0) (È (gV 1) Ô))) (tb (e2 (pQ Ã) (C 1) (eC .non))) (C 0))
def gH:List D->Option D:=Ù ["words"]
  (Ç (Ò (tb (e1 (sN Ã yk) (e2 dX (C 0) (eC (.int 0))))) (Ê lW) É)
  (Ê (ü (tb (e2 (ga Ã) (e2 dX (C 0) (eC (.int 0))) (eC (.str "plan")))) (λZ=>(Å Z).bind λS=>U (.lst S)) (cl gR (Ä (C 0) Å)))))
theorem TC (T:Txt K mg a w):dL P w K mg base fJ 2 a.br a.bs ["words"] (iH K a.ct [0] 0 gH) :=
 lf (Y:=mO [0]) T.aL.fn λ_ _ _ _ _ _ hr nd=>(zc (jY (Ys T.bc (iY xv dY)) (yn (pO (tf (N:=["word","slot"]) (om:=mO [0,0]) (cap:=[]) (own:=2) (PP T.bD (za (fP (xb (n:=0) (by decide) xv (xl dY) ju)) (za (Qb (k:=0) T.bc (iY xv dY)) ze))) (λ_ _ _ _ _ h=>(Ge (n:=1) rfl (xi (nv h) (xi (nv h) u3)))) (λ_ _ _ _ _=>(uk (zQ xv rL))) (λ_ _ _ _ _=>(XE.ow xv)))))) (zh (iG (DN (pY hr (iY xv dY) (zn (n:=0))) (fP (xg (k:=0) zx)) (xc T.ad (Tc T) hr (za xv ze))))))
def m8:EF:=(eJ (Ý (C 0)) 1 [] (gV 0) fW (eN iK (Ä (C 0) Å)))
def kj:List D->Option D:=Ù ["numbers"]
  (Ê m8)
theorem Tf (T:Txt K mg a w):dL P w K mg base fJ 1 a.bt a.bu ["numbers"] (iH K a.ct [0] 0 kj) :=
 lf (Y:=mO [0]) T.aM.fn λ_ _ _ _ _ _ hr nd=>(zh (yn (pO (tf (N:=["number"]) (om:=mO [0]) (cap:=[]) (own:=1) (yf (n:=0) xv) (λ_ _ _ _ _ h=>(nv h)) (λ_ _ _ _ _=>zy) (λ_ _ _ _ _=>(XE.ow (zq (k:=0) yb wn rfl T.bC w6 (za xv ze))))))))
def jE:List D->Option D:=ë 0 ["desk","words"]
  (â (k7 0 [5,6] "net" (cl (fL 4) (Ä (λZ=>((C 1) Z).bind λd=>((Û (eC (.int 1))) Z).bind λl=>(î Z).bind λh=>d7 d l h) (Ä (λZ=>(Å Z).bind λS=>U (.lst S)) Å))))
  (â (k7 0 [6] "table" (eC .non))
  (â (k7 0 [6] "puts" (λZ=>(Å Z).bind λS=>U (.lst S)))
  (ø (eC (.str "ok"))))))
theorem S5 (T:Txt K mg a w):dL P w K mg base fJ 6 a.bv a.bw ["desk","words"] (t5 K a.ct 0 1 jE):=by refine we (n:=0) (m:=1) (Y:=[]) T.aN.fn To rfl rfl λxa jP A outer s H E hr=>?_;exact(yr (Gc (i:=0) (rW rfl) T.bk (fP (CP T.f T.v (jg T) hr (za (fP (xb (n:=0) (by decide) xv (xl dY) ju)) (za (fP (xg (k:=0) zx)) ze))))) (yr (Gc (i:=0) (rW rfl) T.bn rL) (yr (Gc (i:=0) (rW rfl) T.bl (fP (xg (k:=0) zx))) (Gq (zn (n:=0))))))
def eQ:List D->Option D:=ë 0 ["desk","arrows"]
  (â (k7 0 [5,6] "net" (cl (fL 4) (Ä (e1 (dH [4] "names") (e1 (dH [5,6] "net") (C 0))) (Ä (C 1) Å))))
  (â (k7 0 [6] "table" (eC .non))
  (ø (eC (.str "ok")))))
theorem wx (T:Txt K mg a w):dL P w K mg base fJ 6 a.bx a.bz ["desk","arrows"] (t5 K a.ct 0 1 eQ):=by refine we (n:=0) (m:=1) (Y:=[]) T.aO.fn Tp rfl rfl λxa jP A outer s H E hr=>?_;exact(yr (Gc (i:=0) (rW rfl) T.bk (fP (CP T.f T.v (jg T) hr (za (lu (yY xv T.bk) T.bj) (za xv ze))))) (yr (Gc (i:=0) (rW rfl) T.bn rL) (Gq (zn (n:=0)))))
def f7:List D->Option D:=ë 0 ["desk","words"]
  (pw 0 (Ä (e2 dF (e1 (dH [4] "arrows") (e1 (dH [5,6] "net") (C 0))) (cl fT (Ä (C 1) (Ä (e1 (dH [4] "names") (e1 (dH [5,6] "net") (C 0))) Å)))) Å) eQ)
theorem wy (T:Txt K mg a w):dL P w K mg base fJ 7 a.bA a.bB ["desk","words"] (t5 K a.ct 0 1 f7):=by refine we (n:=0) (m:=1) (Y:=[]) T.aP.fn Tq rfl rfl λxa jP A outer s H E hr=>?_;exact(Hy (KB (i:=0) (rW rfl) T.aO (wx T) hr (wq ug) (xx (fP (ky (lu (yY xv T.bk) T.bg) (xc T.ag (qx T) hr (za xv (za (lu (yY xv T.bk) T.bj) ze))))) wu)))
def nL:List D->Option D:=ë 0 ["desk","words","number"]
  (â (Ì 2 (eN mR (Ä (e2 dX (C 1) (eC (.int 1))) Å)))
  (pw 0 (Ä (e2 dF (λZ=>((e1 (dH [4] "arrows") (e1 (dH [5,6] "net") (C 0))) Z).bind λd=>(î Z).bind λl=>((Û (C 2)) Z).bind λh=>d7 d l h) (λZ=>((e1 (dH [4] "arrows") (e1 (dH [5,6] "net") (C 0))) Z).bind λd=>((Û (e2 dF (C 2) (eC (.int 1)))) Z).bind λl=>(î Z).bind λh=>d7 d l h)) Å) eQ))
theorem UF (T:Txt K mg a w):dL P w K mg base fJ 7 a.bC a.bD ["desk","words"] (t5 K a.ct 0 1 nL):=by refine we (n:=0) (m:=1) (Y:=mO [0]) T.aQ.fn MX rfl rfl λxa jP A outer s H E hr=>?_;exact(yr (pZ MX.nd (zq (k:=0) yg yw rfl T.bv wj (za (iY xv dY) ze))) (Hy (KB (i:=0) (rW rfl) T.aO (wx T) hr (wq ug) (xx (fP (ky (fP (xb (n:=0) (by decide) (lu (yY xv T.bk) T.bg) ju (xl xv))) (fP (xb (n:=0) (by decide) (lu (yY xv T.bk) T.bg) (xl (fP (ky xv dY))) ju)))) wu))))
def g0:List D->Option D:=Ù ["arrow","time"]
  (Ç (Ò (tb (e1 (xH [0,1,2,3,4,5,6] [1]) (C 0))) (Ê (cl (jB 1) (Ä (e1 (dH [0,1,2,3] "start") (C 0)) (Ä (e1 (dH [0,1,2,3] "goal") (C 0)) (Ä (C 1) Å))))) É)
  (Ç (Ò (tb (e1 (xH [0,1,2,3,4,5,6] [2]) (C 0))) (Ê (cl (jC 2) (Ä (e1 (dH [0,1,2,3] "start") (C 0)) (Ä (e1 (dH [0,1,2,3] "goal") (C 0)) (Ä (C 1) (Ä (e1 (dH [0,1,2,3] "behind") (C 0)) Å)))))) É)
  (Ê (cl (jA 3) (Ä (e1 (dH [0,1,2,3] "start") (C 0)) (Ä (e1 (dH [0,1,2,3] "goal") (C 0)) (Ä (C 1) (Ä (e1 (dH [0,1,2,3] "behind") (C 0)) Å))))))))
theorem T4 (T:Txt K mg a w):dL P w K mg base fJ 4 a.bE a.bF ["arrow","time"] (iH K a.ct [0,0] 0 g0) :=
 lf (Y:=mO [0,0]) T.aR.fn λ_ _ _ _ _ _ hr nd=>(zc (jY (yt (Hx (k:=0) T.bq T.bw T.c.mgx xv)) (yn (pO (CP T.c T.j (uh T) hr (za (lu xv T.bm) (za (lu xv T.bi) (za xv ze))))))) (zc (jY (yt (Hx (k:=0) T.br T.bw T.d.mgx xv)) (yn (pO (CP T.d T.k (ui T) hr (za (lu xv T.bm) (za (lu xv T.bi) (za xv (za (lu xv T.bh) ze)))))))) (zh (yn (pO (CP T.e T.m (uj T) hr (za (lu xv T.bm) (za (lu xv T.bi) (za xv (za (lu xv T.bh) ze))))))))))
def kP:List D->Option D:=ë 0 ["desk","words","arrows","number"]
  (â (Ì 2 (eN rE (Ä (e1 (dH [4] "arrows") (e1 (dH [5,6] "net") (C 0))) Å)))
  (â (Ì 3 (eN mR (Ä (e2 dX (C 1) (eC (.int 1))) Å)))
  (â (sW 2 (C 3) (cl g0 (Ä (e2 dX (C 2) (C 3)) (Ä (eN mR (Ä (e2 dX (C 1) (eC (.int 2))) Å)) Å))))
  (Jy 2 (pw 0 (Ä (C 2) Å) eQ)))))
theorem S6 (T:Txt K mg a w):dL P w K mg base fJ 7 a.bG a.bH ["desk","words"] (t5 K a.ct 0 1 kP):=by refine we (n:=0) (m:=1) (Y:=mO [1,0]) T.aS.fn wv rfl rfl λxa jP A outer s H E hr=>?_;exact(yr (p4 wv.nd (Kl vo (Kv (n:=0) (by decide)) rfl T.bz Hu (za (lu (yY xv T.bk) T.bg) ze))) (yr (pZ wv.nd (zq (k:=0) yg yw rfl T.bv wj (za (iY xv dY) ze))) (yr (OL 2 rfl xv (xc T.aR (T4 T) hr (za (AN xv xv) (za (zq (k:=0) yg yw rfl T.bv wj (za (iY xv dY) ze)) ze)))) (Ĵ (i:=2) rfl (Hy (KB (i:=0) (rW rfl) T.aO (wx T) hr (wq ug) (xx xv wu)))))))
def oY:List D->Option D:=ë 0 ["desk","words"]
  (ø (cl oX (Ä (e1 (dH [4] "names") (e1 (dH [5,6] "net") (C 0))) (Ä (λZ=>((Ä (e1 (dH [5,6] "net") (C 0)) (Ä (eN mR (Ä (e2 dX (C 1) (eC (.int 1))) Å)) Å)) Z).bind λS=>sQ (S++[.non,.non])) (Ä (eC (.int 0)) Å)))))
theorem Vh (T:Txt K mg a w):dL P w K mg base fJ 5 a.bI a.bJ ["desk","words"] (t5 K a.ct 0 1 oY):=by refine we (n:=0) (m:=1) (Y:=[]) T.aT.fn Vd rfl rfl λxa jP A outer s H E hr=>?_;exact(Gq (xc T.aH (Vg T) hr (za (lu (yY xv T.bk) T.bj) (za (fP (Hw (sD:=[.non,.non]) (ns:=[0,0]) (nd:=[0,0]) (PQ T) (hr.mono (by decide)) rfl T.an.mgx T.an.fn.kp T.ap.choose_spec.2.2 T.ap.choose_spec.2.1 (λ_ _=>(.cons (Al.of .non) (.cons (Al.of .non) .nil))) (za (yY xv T.bk) (za (zq (k:=0) yg yw rfl T.bv wj (za (iY xv dY) ze)) ze)))) (za dY ze)))))
def kX:List D->Option D:=ë 0 ["desk","words","paper"]
  (â (Ì 2 (λZ=>((Ä (e1 (dH [5,6] "net") (C 0)) (Ä (eN mR (Ä (e2 dX (C 1) (eC (.int 1))) Å)) Å)) Z).bind λS=>ix (S++[.non])))
  (ø (ü (tb (e2 (pQ Ã) (C 2) (eC .non))) (eC (.str "none")) (e2 m7 (eC (.str " ")) (cl kj (Ä (e2 dF (λZ=>((Ä (e2 dX (C 2) (eC (.int 0))) (Ä (e2 dX (C 2) (eC (.int 1))) Å)) Z).bind λS=>U (.lst S)) (e2 dX (C 2) (eC (.int 2)))) Å))))))
theorem T5 (T:Txt K mg a w):dL P w K mg base fJ 6 a.bK a.bL ["desk","words"] (t5 K a.ct 0 1 kX):=by refine we (n:=0) (m:=1) (Y:=mO [0]) T.aU.fn qk rfl rfl λxa jP A outer s H E hr=>?_;exact(yr (p4 qk.nd (pO (Hw (sD:=[.non]) (ns:=[0,0]) (nd:=[0]) (SY T) (hr.mono (by decide)) rfl T.aA.mgx T.aA.fn.kp T.aB.choose_spec.2.2 T.aB.choose_spec.2.1 (λ_ _=>(.cons (Al.of .non) .nil)) (za (yY xv T.bk) (za (zq (k:=0) yg yw rfl T.bv wj (za (iY xv dY) ze)) ze))))) (Gq (DN (zQ xv rL) (zn (n:=0)) (Gb (k:=0) (zn (n:=0)) (xc T.aM (Tf T) hr (za (fP (ky (fP (xg (k:=0) (zj (XE.ow (iY xv dY)) (zj (XE.ow (iY xv dY)) zx)))) (iY xv dY))) ze))))))
def kM:Nat->List D->Option D:=BL ["self"]
  (Ç (m9 [5,6] "net" (eC .non))
  (Ç (m9 [6] "table" (eC .non))
  (Ç (m9 [6] "puts" (λZ=>(Å Z).bind λS=>U (.lst S)))
  (m9 [6] "answered" (eC (.int 0))))))
theorem S7 (T:Txt K mg a w):dL P w K mg base fJ 1 a.bM a.bN ["self"] (wX K a.ct [6] [] kM) :=
 D4 (Y:=[]) (rk:=0) T.aV.fn λ_ _ _ _ _ _ _ hr nd=>(zc (uf T.bk rL) (zc (uf T.bn rL) (zc (uf T.bl (fP (xg (k:=0) zx))) (zh (uf T.bf dY)))))
def gN:List (Str×(List D->Option D)):=[("goings",jE),("ride",f7),("wait",f7),("back",f7),("cut",nL),("change",kP),("run",oY),("again",kX)]
def dM:List D->Option D:=ë 0 ["self","row","words","answer"]
  (â (Ò (Þ (tb (e1 (sM "str") (C 1)))) Ú É)
  (â (Ì 2 (e2 ko (C 1) (eC (.str " "))))
  (â (Ò (Þ (tb (cl ki (Ä (C 0) (Ä (C 2) Å))))) Ú É)
  (â (Ò (tb (e2 (ga Â) (e2 dX (C 2) (eC (.int 0))) (eC (.str "goings")))) (ì (cl gb (Ä (cl gH (Ä (C 2) Å)) (Ä (e1 (dH [4] "names") (e1 (dH [5,6] "net") (C 0))) Å)))) É)
  (â (é 3 (qQ 0 (e2 dX (C 2) (eC (.int 0))) (Ä (C 2) Å) gN))
  (â (yF 0 [6] "answered" (eC (.int 1)))
  (ø (C 3))))))))
theorem xr (T:Txt K mg a w):dL P w K mg base fJ 8 a.bO a.bP ["self","row"] (t5 K a.ct 0 1 dM):=by refine we (n:=0) (m:=1) (Y:=mO [0,0]) T.aW.fn uo rfl rfl λxa jP A outer s H E hr=>?_;exact(yr (jY (wc (yt (Gp (k:=0) (by decide) T.bw T.bC w6 xv))) xj) (yr (p4 uo.nd (pO (Hh xv (zn (n:=0))))) (yr (jY (wc (yt (xc T.aK (V5 T) hr (za xv (za xv ze))))) xj) (yr (jY (AX hr (iY xv dY) (zn (n:=0))) (OF (xc T.ae (jz T) hr (za (xc T.aL (TC T) hr (za xv ze)) (za (lu (yY xv T.bk) T.bj) ze))))) (yr (OT rfl uo.nd rfl (Or.inl rfl) (T.bd.elim λ_ h=>h.elim λ_ h=>Yu (i:=0) (tb:=gN) (rW rfl) h.1 (v4 h.2.1 T.aN (S5 T) hr (v4 h.2.2.1 T.aP (wy T) hr (v4 h.2.2.2.1 T.aP (wy T) hr (v4 h.2.2.2.2.1 T.aP (wy T) hr (v4 h.2.2.2.2.2.1 T.aQ (UF T) hr (v4 h.2.2.2.2.2.2.1 T.aS (S6 T) hr (v4 h.2.2.2.2.2.2.2.1 T.aT (Vh T) hr (v4 h.2.2.2.2.2.2.2.2.1 T.aU (T5 T) hr Ū)))))))) (iY xv dY) (wq ug) (xx xv wu))) (yr (Yt (i:=0) (rW rfl) T.bf dY) (Gq xv)))))))
def eP:List D->Option D:=Ù ["_law_script","_law_k"]
  (Ç (Ò (tb (e2 tL (C 1) (eN ee (Ä (C 0) Å)))) (Ê (e2 dX (C 0) (C 1))) É)
  (Ê (eC (.int 0))))
theorem ym (T:Txt K mg a w):dL P w K mg base fJ 1 a.bQ a.bR ["_law_script","_law_k"] (iH K a.ct [0,0] 0 eP) :=
 lf (Y:=mO [0,0]) T.aX.fn λ_ _ _ _ _ _ hr nd=>(zc (jY (zR xv (nO T.bx (za xv ze))) (iG (iY xv xv))) (zh (iG dY)))
def lG:List D->Option D:=Ù ["_law_cell"]
  (Ê (eB (ß (tb (e2 Cv (C 0) (e2 B0 (eC (.int 1)) (eC (.int 90))))) (tb (e2 (ga Ã) (e2 i7 (C 0) (eC (.int 2))) (eC (.int 1)))))))
theorem TD (T:Txt K mg a w):dL P w K mg base fJ 1 a.bS a.bT ["_law_cell"] (iH K a.ct [0] 0 lG) :=
 lf (Y:=mO [0]) T.aY.fn λ_ _ _ _ _ _ hr nd=>(zh (iG (ue (SM xv (CQ (k:=0) Zw YG dY dY)) (vi (k:=0) (Ċ hr (ä xv dY) dY)))))
def my:List D->Option D:=Ù ["_law_cell","_law_k","_law_number_here"]
  (Ç (Ò (ß (tb (cl lG (Ä (C 0) Å))) (tb (e2 wM (e2 zO (C 0) (e2 dF (eC (.int 1)) (e2 n6 (eC (.int 31)) (C 1)))) (eC (.int 0))))) (Ê (e2 i7 (e2 zO (C 0) (e2 dF (eC (.int 1)) (e2 n6 (eC (.int 31)) (C 1)))) (eC (.int 2147483648)))) É)
  (Ç (Ì 2 (e2 i7 (e2 n6 (e2 dF (e2 dF (C 0) (e2 n6 (eC (.int 7919)) (C 1))) (eC (.int 1))) (eC (.int 48271))) (eC (.int 2147483647))))
  (Ç (Ì 2 (e2 i7 (e2 n6 (C 2) (e2 dF (e2 kG (C 2) (eC (.int 1009))) (eC (.int 69621)))) (eC (.int 2147483647))))
  (Ê (e2 i7 (e2 n6 (C 2) (e2 dF (e2 dF (e2 kG (C 2) (eC (.int 2003))) (eC (.int 39373))) (C 1))) (eC (.int 2147483629)))))))
theorem T6 (T:Txt K mg a w):dL P w K mg base fJ 2 a.bU a.bV ["_law_cell","_law_k"] (iH K a.ct [0,0] 0 my) :=
 lf (Y:=mO [0,0,0]) T.aZ.fn λ_ _ _ _ _ _ hr nd=>(zc (jY (XW.t (Eg (yt (xc T.aY (TD T) hr (za xv ze))) (jp (B3 (CQ (k:=0) Pu OG xv (fP (ky dY (zJ dY xv)))) dY)))) (iG (ä (CQ (k:=0) Pu OG xv (fP (ky dY (zJ dY xv)))) dY))) (zc (pZ nd (ä (zJ (fP (ky (fP (ky xv (zJ dY xv))) dY)) dY) dY)) (zc (pZ nd (ä (zJ xv (fP (ky (ï xv dY) dY))) dY)) (zh (iG (ä (zJ xv (fP (ky (fP (ky (ï xv dY) dY)) xv))) dY))))))
def nK:List D->Option D:=Ù ["_law_cell","_law_number_here"]
  (Ç (Ò (tb (e2 (ga Ã) (e2 i7 (C 0) (eC (.int 8))) (eC (.int 7)))) (Ê (e2 i7 (e2 kG (C 0) (eC (.int 8))) (e2 dF (e2 AT (eC (.int 10)) (eC (.int 9))) (eC (.int 1))))) É)
  (Ê (e2 i7 (e2 kG (C 1) (eC (.int 1000))) (eC (.int 10)))))
theorem UG (T:Txt K mg a w):dL P w K mg base fJ 1 a.bW a.bX ["_law_cell","_law_number_here"] (iH K a.ct [0,0] 0 nK) :=
 lf (Y:=mO [0,0]) T.a0.fn λ_ _ _ _ _ _ hr nd=>(zc (jY (pY hr (ä xv dY) dY) (iG (ä (ï xv dY) (fP (ky (CQ (k:=0) Zv YF dY dY) dY))))) (zh (iG (ä (ï xv dY) dY))))
def f6:List D->Option D:=Ù ["_law_cell","_law_many","_law_k","_law_number_here","_law_start","_law_goal","_law_time_here","_law_behind"]
  (Ç (Ì 3 (cl my (Ä (C 0) (Ä (C 2) Å))))
  (Ç (Ì 4 (e2 i7 (C 3) (C 1)))
  (Ç (Ì 5 (e2 i7 (e2 kG (C 3) (eC (.int 8))) (C 1)))
  (Ç (Ì 6 (cl nK (Ä (C 0) (Ä (C 3) Å))))
  (Ç (Ì 7 (e2 i7 (e2 kG (C 3) (eC (.int 64))) (eC (.int 4))))
  (Ç (Ò (tb (e2 tL (C 2) (C 1))) (Ê (λZ=>((Ä (eC (.str "back")) (Ä (C 4) (Ä (C 2) (Ä (C 6) (Ä (eN uB (Ä (eC (.int 1)) (Ä (C 7) Å))) Å))))) Z).bind λS=>U (.tup S))) É)
  (Ç (Ò (ß (tb (e2 tL (C 4) (C 5))) (tb (e2 (ga Ã) (e2 i7 (e2 kG (C 3) (eC (.int 256))) (eC (.int 3))) (eC (.int 0))))) (Ê (λZ=>((Ä (eC (.str "ride")) (Ä (C 4) (Ä (C 5) (Ä (C 6) (Ä (eC (.int 0)) Å))))) Z).bind λS=>U (.tup S))) É)
  (Ç (Ò (å (tb (e2 tL (C 4) (C 5))) (ß (tb (e2 wM (C 7) (eC (.int 0)))) (tb (e2 (ga Ã) (e2 i7 (e2 kG (C 3) (eC (.int 256))) (eC (.int 3))) (eC (.int 1)))))) (Ê (λZ=>((Ä (eC (.str "wait")) (Ä (C 4) (Ä (C 5) (Ä (C 6) (Ä (C 7) Å))))) Z).bind λS=>U (.tup S))) É)
  (Ê (λZ=>((Ä (eC (.str "back")) (Ä (C 4) (Ä (C 5) (Ä (C 6) (Ä (eN uB (Ä (eC (.int 1)) (Ä (C 7) Å))) Å))))) Z).bind λS=>U (.tup S)))))))))))
theorem T7 (T:Txt K mg a w):dL P w K mg base fJ 3 a.bY a.bZ ["_law_cell","_law_many","_law_k"] (iH K a.ct [0,0,0] 0 f6) :=
 lf (Y:=mO [0,0,0,0,0,0,0,0]) T.a1.fn λ_ _ _ _ _ _ hr nd=>(zc (p4 nd (lz T.aZ (T6 T) hr (za xv (za xv ze)))) (zc (pZ nd (ä xv xv)) (zc (pZ nd (ä (ï xv dY) xv)) (zc (p4 nd (lz T.a0 (UG T) hr (za xv (za xv ze)))) (zc (pZ nd (ä (ï xv dY) dY)) (zc (jY (zR xv xv) (yn (pO (Eh (zj (XE.ow (zn (n:=0))) (zj (XE.ow xv) (zj (XE.ow xv) (zj (XE.ow xv) (zj (XE.ow (yu (k:=0) (Kj rfl) Kw rfl T.bA Ef (za dY (za xv ze)))) zx))))))))) (zc (jY (XW.t (Eg (zR xv xv) (jp (pY hr (ä (ï xv dY) dY) dY)))) (yn (pO (Eh (zj (XE.ow (zn (n:=0))) (zj (XE.ow xv) (zj (XE.ow xv) (zj (XE.ow xv) (zj (XE.ow dY) zx))))))))) (zc (jY (XW.t (wa (zR xv xv) (xq (XW.t (Eg (B3 xv dY) (jp (pY hr (ä (ï xv dY) dY) dY))))))) (yn (pO (Eh (zj (XE.ow (zn (n:=0))) (zj (XE.ow xv) (zj (XE.ow xv) (zj (XE.ow xv) (zj (XE.ow xv) zx))))))))) (zh (yn (pO (Eh (zj (XE.ow (zn (n:=0))) (zj (XE.ow xv) (zj (XE.ow xv) (zj (XE.ow xv) (zj (XE.ow (yu (k:=0) (Kj rfl) Kw rfl T.bA Ef (za dY (za xv ze)))) zx)))))))))))))))))
def lN:List D->Option D:=Ù ["_law_arrow_here","_law_names","_law_word","_law_start","_law_goal","_law_time_here","_law_behind","_law_row_here"]
  (Ç (í (gT (È (gV 2) (È (gV 3) (È (gV 4) (È (gV 5) (È (gV 6) Ô)))))) (C 0))
  (Ç (Ì 7 (e2 m7 (eC (.str " ")) (λZ=>((Ä (C 2) (Ä (e2 dX (C 1) (C 3)) (Ä (e2 dX (C 1) (C 4)) (Ä (eN iK (Ä (C 5) Å)) Å)))) Z).bind λS=>U (.lst S))))
  (Ç (Ò (tb (e2 (ga Ã) (C 2) (eC (.str "ride")))) (Ê (C 7)) É)
  (Ê (e2 dF (e2 dF (C 7) (eC (.str " "))) (eN iK (Ä (C 6) Å)))))))
theorem UK (T:Txt K mg a w):dL P w K mg base fJ 1 a.b0 a.b1 ["_law_arrow_here","_law_names"] (iH K a.ct [0,0] 0 lN) :=
 lf (Y:=mO [0,0,0,0,0,0,0,0]) T.a2.fn λ_ _ _ _ _ _ hr nd=>(zc (PL xv (Gk (n:=0) rfl (ye (n8 nd) (ye (n8 nd) (ye (n8 nd) (ye (n8 nd) (ye (n8 nd) jr))))))) (zc (pZ nd (Gb (k:=0) (zn (n:=0)) (fP (xg (k:=0) (zj (XE.ow xv) (zj (XE.ow (iY xv xv)) (zj (XE.ow (iY xv xv)) (zj (XE.ow (zq (k:=0) yb wn rfl T.bC w6 (za xv ze))) zx)))))))) (zc (jY (pY hr xv (zn (n:=0))) (iG xv)) (zh (yn (pO (ky (fP (ky xv (zn (n:=0)))) (zq (k:=0) yb wn rfl T.bC w6 (za xv ze)))))))))
def kn:EF:=(eJ (λZ=>((C 0) Z).bind GF) 1 [] (gV 0) fW (e2 AL (C 0) (eC (.str "0123456789"))))
def eA:List D->Option D:=Ù ["_law_word"]
  (Ç (Ò (tb (e2 (ga Ã) (C 0) (eC (.str "-")))) (Ê (eC .non)) É)
  (Ç (Ò (å (tb (e2 (ga Ã) (C 0) (eC (.str "")))) (Þ (tb (eN lm (Ä kn Å))))) (Ê (e1 xJ (eC (.int 1)))) É)
  (Ê (eN mR (Ä (C 0) Å)))))
theorem jh (T:Txt K mg a w):dL P w K mg base fJ 1 a.b2 a.b3 ["_law_word"] (iH K a.ct [0] 0 eA) :=
 lf (Y:=mO [0]) T.a3.fn λ_ _ _ _ _ _ hr nd=>(zc (jY (pY hr xv (zn (n:=0))) (iG rL)) (zc (jY (XW.t (wa (pY hr xv (zn (n:=0))) (xq (wc (yt (yu (k:=0) (wm rfl) um rfl T.bs DI (za (fP (tf (N:=["_law_sign"]) (om:=mO [0]) (cap:=[]) (own:=1) (XI.cc (Lh (n:=0) xv)) (λ_ _ _ _ _ h=>(nv h)) (λ_ _ _ _ _=>zy) (λ_ _ _ _ _=>(XE.ow (DJ (k:=0) Y5 VX xv (zn (n:=0)) (by with_unfolding_all rfl)))))) ze))))))) (iG (Gn (k:=0) dY))) (zh (iG (zq (k:=0) yg yw rfl T.bv wj (za xv ze))))))
def pD:EF:=(eJ (Ý (e2 dX (C 3) (e2 dF (C 5) (eC (.int 1))))) 1 [] (gV 0) fW (cl eA (Ä (C 0) Å)))
def mN:SF:=(Ç (Ì 6 pD)
  (Ç (Ò (å (tb (e2 (ga Â) (eN ee (Ä (C 6) Å)) (e2 dF (eN ee (Ä (C 1) Å)) (eC (.int 1))))) (å (tb (e2 (ga Â) (e2 dX (C 6) (eC (.int 0))) (C 5))) (tb (e2 (ð Ã) (e1 xJ (eC (.int 1))) (C 6))))) (Ê (Ą (eC .non))) É)
  (ô 4 (λZ=>((C 6) Z).bind λd=>((Û (eC (.int 1))) Z).bind λl=>(î Z).bind λh=>d7 d l h))))
def pE:EF:=(eJ (Ý (e2 ko (C 0) (eC (.str " ")))) 1 [] (gV 0) (tb (e2 (ga Â) (C 0) (eC (.str "")))) (C 0))
def pF:EF:=(eJ (Ý (e2 ko (C 0) (eC (.str "\n")))) 1 [] (gV 0) fW pE)
def jV:List D->Option D:=Ù ["_law_text","_law_names","_law_rounds","_law_lines","_law_rows","_law_when","_law_numbers"]
  (Ç (Ì 3 pF)
  (Ç (Ò (å (tb (e2 (ga Â) (eN ee (Ä (C 3) Å)) (e2 dF (C 2) (eC (.int 1))))) (tb (e2 (ga Â) (e2 dX (C 3) (eC (.int 0))) (e2 dF (λZ=>((Ä (eC (.str "round")) Å) Z).bind λS=>U (.lst S)) (C 1))))) (Ê (Ą (eC .non))) É)
  (Ç (Ì 4 (λZ=>(Å Z).bind λS=>U (.lst S)))
  (Ç (Ø (λZ=>((Ä (C 2) Å) Z).bind jS) (gV 5) mN)
  (Ê (C 4))))))
theorem T8 (T:Txt K mg a w):dL P w K mg base fJ 2 a.b4 a.b5 ["_law_text","_law_names","_law_rounds"] (iH K a.ct [0,0,0] 1 jV) :=
 lf (Y:=mO [0,0,0,0,1,0,0]) T.a4.fn λ_ _ _ _ _ _ hr nd=>(zc (AY (k:=0) (N:=["_law_line"]) (om:=mO [0]) (cap:=[]) (own:=1) nd (yf (n:=0) (fP (Hh xv (zn (n:=0))))) (λ_ _ _ _ _ h=>(nv h)) (λ_ _ _ _ _=>zy) (λ_ _ _ _ _=>(pO (tf (N:=["_law_word"]) (om:=mO [0]) (cap:=[]) (own:=1) (yf (n:=0) (fP (Hh xv (zn (n:=0))))) (λ_ _ _ _ _ h=>(nv h)) (λ_ _ _ _ _=>(uk (AX hr xv (zn (n:=0))))) (λ_ _ _ _ _=>(XE.ow xv)))))) (zc (jY (XW.t (wa (AX hr (nO T.bx (za xv ze)) (fP (ky xv dY))) (xq (AX hr (iY xv dY) (fP (ky (fP (xg (k:=0) (zj (XE.ow (zn (n:=0))) zx))) xv)))))) (yn (DK rL))) (zc (p4 nd (xg (k:=0) zx)) (zc (xF (yh (n:=0) T.bB (za xv ze)) (n8 nd) (zc (AY (k:=0) (N:=["_law_word"]) (om:=mO [0]) (cap:=[]) (own:=1) nd (yf (n:=0) (iY xv (fP (ky xv dY)))) (λ_ _ _ _ _ h=>(nv h)) (λ_ _ _ _ _=>zy) (λ_ _ _ _ _=>(lz T.a3 (jh T) hr (za xv ze)))) (zc (jY (XW.t (wa (AX hr (nO T.bx (za xv ze)) (fP (ky (nO T.bx (za xv ze)) dY))) (wa (AX hr (iY xv dY) xv) (xq (vh (k:=0) ux Ej (Gn (k:=0) dY) xv (by with_unfolding_all rfl)))))) (yn (DK rL))) (zh (u5 4 rfl (pO (xb (n:=0) (by decide) xv (xl dY) ju))))))) (zh (YA (i:=4) rfl))))))
def jU:SF:=(Ò (tb (e2 (ga Ã) (C 7) (C 2))) (Ç (Ì 10 (eC (.int 0)))
  (Ç (Ò (tb (e2 Cv (C 3) (C 9))) (Ì 10 (e2 dX (e2 dX (C 1) (e2 nc (C 3) (C 9))) (C 6))) É)
  (Ò (ß (tb (e2 (pQ Â) (C 10) (eC .non))) (å (tb (e2 (pQ Ã) (C 4) (eC .non))) (tb (e2 wM (e2 dF (C 10) (C 8)) (C 4))))) (Ì 4 (e2 dF (C 10) (C 8))) É))) É)
def o7:List D->Option D:=Ù ["_law_arrows","_law_rows","_law_going","_law_when","_law_found","_law_word","_law_start","_law_goal","_law_time_here","_law_behind","_law_first"]
  (Ç (Ì 4 (eC .non))
  (Ç (Ø (Ý (C 0)) (gT (È (gV 5) (È (gV 6) (È (gV 7) (È (gV 8) (È (gV 9) Ô)))))) jU)
  (Ê (C 4))))
theorem UL (T:Txt K mg a w):dL P w K mg base fJ 1 a.b6 a.b7 ["_law_arrows","_law_rows","_law_going","_law_when"] (iH K a.ct [1,0,0,0] 0 o7) :=
 lf (Y:=[.al 1,.ow 0,.ow 0,.ow 0,.ow 0,.ow 0,.ow 0,.ow 0,.ow 0,.ow 0,.ow 0]) T.a5.fn λ_ _ _ _ _ _ hr nd=>(zc (pZ nd rL) (zc (xF (YK 0) (Gk (n:=0) rfl (ye (n8 nd) (ye (n8 nd) (ye (n8 nd) (ye (n8 nd) (ye (n8 nd) jr)))))) (zh (Lx (pY hr xv xv) (zc (pZ nd dY) (zc (jY (Sv xv xv) (pZ nd (iY (iY xv (rY xv xv)) xv))) (zh (jY (XW.t (Eg (Sy xv rL) (jp (XW.t (wa (zQ xv rL) (xq (B3 (fP (ky xv xv)) xv))))))) (p4 nd (pO (ky xv xv))))))) vp))) (zh (iG xv))))
def oE:SF:=(Ò (tb (e2 (ga Â) (e2 dX (e2 dX (C 2) (C 3)) (C 4)) (cl o7 (Ä (C 0) (Ä (C 2) (Ä (C 4) (Ä (C 3) Å))))))) (Ê (eC (.bl Ã))) É)
def oF:SF:=(Ø (λZ=>((Ä (eN ee (Ä (C 1) Å)) Å) Z).bind jS) (gV 4) oE)
def lO:List D->Option D:=Ù ["_law_arrows","_law_names","_law_rows","_law_when","_law_going"]
  (Ç (Ø (λZ=>((Ä (eN ee (Ä (C 2) Å)) Å) Z).bind jS) (gV 3) oF)
  (Ê (eC (.bl Â))))
theorem UM (T:Txt K mg a w):dL P w K mg base fJ 2 a.b8 a.b9 ["_law_arrows","_law_names","_law_rows"] (iH K a.ct [1,0,0] 0 lO) :=
 lf (Y:=[.al 1,.ow 0,.ow 0,.ow 0,.ow 0]) T.a6.fn λ_ _ _ _ _ _ hr nd=>(zc (xF (yh (n:=0) T.bB (za (nO T.bx (za xv ze)) ze)) (n8 nd) (zh (xF (yh (n:=0) T.bB (za (nO T.bx (za xv ze)) ze)) (n8 nd) (zh (jY (AX hr (iY (iY xv xv) xv) (xc T.a5 (UL T) hr (za xv (za xv (za xv (za xv ze)))))) (iG (yz (n:=0)))))))) (zh (iG (yz (n:=0)))))
def pB:EF:=(eJ (λZ=>((Ä (e2 dX (C 2) (C 9)) (Ä (C 8) Å)) Z).bind zS) 2 [] (gT (È (gV 0) (È (gV 1) Ô))) fW (e2 dF (C 0) (C 1)))
def mM:SF:=(Ò (tb (e2 (ga Â) (e2 dX (C 2) (e2 dF (C 9) (C 6))) pB)) (Ê (eC (.bl Ã))) É)
def kR:EF:=(eJ (Ý (C 1)) 1 [] (gV 0) fW (e2 dX (C 0) (eC (.int 4))))
def pC:EF:=(eJ (Ý (e2 ko (C 0) (eC (.str " ")))) 1 [] (gV 0) fW (cl eA (Ä (C 0) Å)))
def gG:List D->Option D:=Ù ["_law_text","_law_arrows","_law_rows","_law_most","_law_many","_law_numbers","_law_count","_law_start","_law_lengths","_law_when"]
  (Ç (Ò (tb (e2 (ga Ã) (C 0) (eC (.str "none")))) (Ê (eC (.bl Â))) É)
  (Ç (Ì 5 pC)
  (Ç (Ò (å (tb (e2 (ga Â) (eN ee (Ä (C 5) Å)) (e2 dF (C 4) (eC (.int 2))))) (å (tb (e2 (ð Ã) (e1 xJ (eC (.int 1))) (C 5))) (å (tb (e2 (ð Ã) (eC .non) (C 5))) (tb (e2 tL (e2 dX (C 5) (eC (.int 0))) (eC (.int 1))))))) (Ê (eC (.bl Ã))) É)
  (Ç (í (gL (È (gV 6) (È (gV 7) Ô))) (λZ=>((C 5) Z).bind λd=>(î Z).bind λl=>((Û (eC (.int 2))) Z).bind λh=>d7 d l h))
  (Ç (Ì 8 (λZ=>((C 5) Z).bind λd=>((Û (eC (.int 2))) Z).bind λl=>(î Z).bind λh=>d7 d l h))
  (Ç (Ò (tb (e2 wM (e2 dF (e2 dF (C 6) (C 7)) (eN uQ (Ä (e2 dF (λZ=>((Ä (eC (.int 1)) Å) Z).bind λS=>U (.lst S)) kR) Å))) (C 3))) (Ê (eC (.bl Ã))) É)
  (Ç (Ø (λZ=>((Ä (C 7) (Ä (e2 nc (eN ee (Ä (C 2) Å)) (C 6)) Å)) Z).bind rZ) (gV 9) mM)
  (Ê (eC (.bl Â))))))))))
theorem T9 (T:Txt K mg a w):dL P w K mg base fJ 2 a.ca a.cb ["_law_text","_law_arrows","_law_rows","_law_most","_law_many"] (iH K a.ct [0,1,0,0,0] 0 gG) :=
 lf (Y:=[.ow 0,.al 1,.ow 0,.ow 0,.ow 0,.ow 0,.ow 0,.ow 0,.ow 0,.ow 0]) T.a7.fn λ_ _ _ _ _ _ hr nd=>(zc (jY (pY hr xv (zn (n:=0))) (iG (yz (n:=0)))) (zc (AY (k:=0) (N:=["_law_word"]) (om:=mO [0]) (cap:=[]) (own:=1) nd (yf (n:=0) (fP (Hh xv (zn (n:=0))))) (λ_ _ _ _ _ h=>(nv h)) (λ_ _ _ _ _=>zy) (λ_ _ _ _ _=>(lz T.a3 (jh T) hr (za xv ze)))) (zc (jY (XW.t (wa (AX hr (nO T.bx (za xv ze)) (fP (ky xv dY))) (wa (vh (k:=0) ux Ej (Gn (k:=0) dY) xv (by with_unfolding_all rfl)) (wa (vh (k:=0) ux Ej rL xv (by with_unfolding_all rfl)) (xq (zR (iY xv dY) dY)))))) (iG (yz (n:=0)))) (zc (PL (fP (xb (n:=0) (by decide) xv ju (xl dY))) (Z6 (n:=0) rfl (ye (n8 nd) (ye (n8 nd) jr)))) (zc (p4 nd (pO (xb (n:=0) (by decide) xv (xl dY) ju))) (zc (jY (B3 (fP (ky (fP (ky xv xv)) (yu (k:=0) (Ki rfl) K1 rfl T.bA Ef (za (fP (ky (fP (xg (k:=0) (zj (XE.ow dY) zx))) (fP (tf (N:=["_law_arrow_here"]) (om:=mO [0]) (cap:=[]) (own:=1) (yf (n:=1) xv) (λ_ _ _ _ _ h=>(nv h)) (λ_ _ _ _ _=>zy) (λ_ _ _ _ _=>(XE.ow (iY xv dY))))))) ze)))) xv) (iG (yz (n:=0)))) (zc (xF (u4 (n:=0) T.bB (za xv (za (rY (nO T.bx (za xv ze)) xv) ze))) (n8 nd) (zh (jY (AX hr (iY xv (fP (ky xv xv))) (fP (tf (N:=["_law_time_here","_law_length"]) (om:=mO [0,0]) (cap:=[]) (own:=2) (OS (n:=0) T.bD (za (iY xv xv) (za xv ze))) (λ_ _ _ _ _ h=>(Ge (n:=1) rfl (xi (nv h) (xi (nv h) u3)))) (λ_ _ _ _ _=>zy) (λ_ _ _ _ _=>(pO (ky xv xv)))))) (iG (yz (n:=0)))))) (zh (iG (yz (n:=0)))))))))))
def qD:EF:=(eJ (Ý (C 1)) 1 [6] (gV 0) (tb (e2 (ga Ã) (e2 dX (C 0) (eC (.int 2))) (C 1))) (C 0))
def iQ:SF:=(Ò (tb (e2 (ga Ã) qD (λZ=>(Å Z).bind λS=>U (.lst S)))) (Ê (eC (.bl Â))) É)
def gM:List D->Option D:=ë 0 ["_law_desk","_law_arrows","_law_names","_law_rounds","_law_most","_law_rows","_law_going"]
  (â (é 5 (p9 (lq 0 6 "say" (Ä (e2 dF (eC (.str "run ")) (eN iK (Ä (C 3) Å))) Å) dM) (Ä (C 2) (Ä (C 3) Å)) jV))
  (â (Ò (å (tb (e2 (pQ Ã) (C 5) (eC .non))) (Þ (tb (cl lO (Ä (C 1) (Ä (C 2) (Ä (C 5) Å))))))) (Ê (eC (.bl Ã))) É)
  (sP (Ø (λZ=>((Ä (eN ee (Ä (C 2) Å)) Å) Z).bind jS) (gV 6) iQ)
  (p9 (lq 0 6 "say" (Ä (e2 dF (eC (.str "again ")) (eN iK (Ä (C 4) Å))) Å) dM) (Ä (C 1) (Ä (C 5) (Ä (C 4) (Ä (eN ee (Ä (C 2) Å)) Å)))) gG))))
theorem MY (T:Txt K mg a w):dL P w K mg base fJ 9 a.cc a.cd ["_law_desk","_law_arrows","_law_names","_law_rounds","_law_most"] (CU K a.ct [1,0,0,0] gM):=by refine VW (pm:=[1,0,0,0]) (Y:=[.al 1,.ow 0,.ow 0,.ow 0,.ow 0,.ow 0]) T.a8.fn uq rfl rfl (by decide) (u6 (by decide)) λxa jP A outer s H E hr=>?_;exact(yr (OT rfl uq.nd rfl (Or.inl rfl) (N9 T.a4 (T8 T) hr (jw (i:=0) (c0:=6) (rW rfl) T.h.cl T.aW (xr T) hr (wq ug) (xx (fP (ky (zn (n:=0)) (zq (k:=0) yb wn rfl T.bC w6 (za xv ze)))) wu)) (za xv (za xv ze)))) (yr (jY (XW.t (wa (zQ xv rL) (xq (wc (yt (xc T.a6 (UM T) hr (za xv (za xv (za xv ze))))))))) (iG (yz (n:=0)))) (WG (xF (yh (n:=0) T.bB (za (nO T.bx (za xv ze)) ze)) (n8 uq.nd) (zh (jY (pY hr (fP (ĵ (N:=["_law_arrow_here","_law_going"]) (om:=mO [0]) (cap:=[6]) (own:=1) (kU:=by simp) (yf (n:=1) xv) (λ_ _ _ _ _=>(nv (show List.Nodup (["_law_arrow_here","_law_going"]:List Str)from by decide +kernel))) (λ_ _ _ _ _=>(uk (pY hr (iY xv dY) xv))) (λ_ _ _ _ _=>(XE.ow xv)))) (fP (xg (k:=0) zx))) (iG (yz (n:=0)))))) (Hy (N9 T.a7 (T9 T) hr (jw (i:=0) (c0:=6) (rW rfl) T.h.cl T.aW (xr T) hr (wq ug) (xx (fP (ky (zn (n:=0)) (zq (k:=0) yb wn rfl T.bC w6 (za xv ze)))) wu)) (za xv (za xv (za xv (za (nO T.bx (za xv ze)) ze)))))))))
def uK:SF:=(vV (xI (ga Â) (lq 7 6 "say" (Ä (cl lN (Ä (C 8) (Ä (C 3) Å))) Å) dM) (eC (.str "ok"))) (Ê (eC (.bl Ã))) É)
def yC:EF:=(eJ (λZ=>((Ä (C 2) Å) Z).bind jS) 1 [0,1] (gV 0) fW (cl f6 (Ä (cl eP (Ä (C 1) (Ä (e2 dF (eC (.int 4)) (C 0)) Å))) (Ä (C 2) (Ä (C 0) Å)))))
def yD:EF:=(eJ (λZ=>((Ä (C 1) Å) Z).bind jS) 1 [0] (gV 0) fW (e2 dF (e2 dX (λZ=>((Ä (eC (.str "a")) (Ä (eC (.str "run")) (Ä (eC (.str "z9")) (Ä (eC (.str "round")) Å)))) Z).bind λS=>U (.lst S)) (e2 i7 (e2 dF (cl eP (Ä (C 1) (Ä (eC (.int 1)) Å))) (C 0)) (eC (.int 4)))) (eN iK (Ä (C 0) Å))))
def AO:List D->Option D:=Ù ["_law_script","_law_many","_law_total","_law_names","_law_rounds","_law_most","_law_arrows","_law_desk","_law_arrow_here","_law_cell","_law_at","_law_time_here","_law_out"]
  (Ç (Ì 1 (e2 dF (eC (.int 1)) (e2 i7 (cl eP (Ä (C 0) (Ä (eC (.int 0)) Å))) (eC (.int 5)))))
  (Ç (Ì 2 (e2 dF (C 1) (e2 i7 (e2 kG (cl eP (Ä (C 0) (Ä (eC (.int 0)) Å))) (eC (.int 5))) (eC (.int 9)))))
  (Ç (Ì 3 yD)
  (Ç (Ì 4 (e2 i7 (cl eP (Ä (C 0) (Ä (eC (.int 2)) Å))) (eC (.int 81))))
  (Ç (Ì 5 (e2 dF (eC (.int 1)) (e2 i7 (cl eP (Ä (C 0) (Ä (eC (.int 3)) Å))) (eC (.int 60)))))
  (Ç (Ì 6 yC)
  (Ç (Ì 7 (λ_=>kM 6 []))
  (Ç (vV (xI (ga Â) (lq 7 6 "say" (Ä (e2 dF (eC (.str "goings ")) (e2 m7 (eC (.str " ")) (C 3))) Å) dM) (eC (.str "ok"))) (Ê (eC (.bl Ã))) É)
  (Ç (vW 6 (Ø (Ý (C 6)) (gV 8) uK))
  (Ç (vV (BQ (mB (qR 7 [1,0,0,0] (Ä (C 6) (Ä (C 3) (Ä (C 4) (Ä (C 5) Å)))) gM))) (Ê (eC (.bl Ã))) É)
  (Ç (Ì 9 (cl eP (Ä (C 0) (Ä (eC (.int 20)) Å))))
  (Ç (Ì 10 (e2 i7 (C 9) (C 2)))
  (Ç (Ì 11 (e2 i7 (e2 kG (C 9) (eC (.int 16))) (eC (.int 30))))
  (Ç (vV (xI (ga Â) (lq 7 6 "say" (Ä (e2 dF (e2 dF (e2 dF (eC (.str "change ")) (eN iK (Ä (C 10) Å))) (eC (.str " "))) (eN iK (Ä (C 11) Å))) Å) dM) (eC (.str "ok"))) (Ê (eC (.bl Ã))) É)
  (Ç (sW 6 (C 10) (e2 dF (λZ=>((e2 dX (C 6) (C 10)) Z).bind λd=>(î Z).bind λl=>((Û (eC (.int 3))) Z).bind λh=>sY d l h) (λZ=>((Ä (C 11) (Ä (e2 dX (e2 dX (C 6) (C 10)) (eC (.int 4))) Å)) Z).bind λS=>U (.tup S))))
  (Ç (Ì 12 (e2 i7 (e2 kG (C 9) (eC (.int 480))) (C 2)))
  (Ç (vV (xI (ga Â) (lq 7 6 "say" (Ä (e2 dF (eC (.str "cut ")) (eN iK (Ä (C 12) Å))) Å) dM) (eC (.str "ok"))) (Ê (eC (.bl Ã))) É)
  (λZ=>((qR 7 [1,0,0,0] (Ä (e2 dF (λZ=>((C 6) Z).bind λd=>(î Z).bind λl=>((Û (C 12)) Z).bind λh=>d7 d l h) (λZ=>((C 6) Z).bind λd=>((Û (e2 dF (C 12) (eC (.int 1)))) Z).bind λl=>(î Z).bind λh=>d7 d l h)) (Ä (C 3) (Ä (C 4) (Ä (C 5) Å)))) gM) Z).bind λr=>U (.rt r.1)))))))))))))))))))
theorem ũ (T:Txt K mg a w):dL P w K mg base fJ 10 a.ce a.cf ["_law_script"] (iH K a.ct [0] 0 AO) :=
 lf (Y:=mO [0,0,0,0,0,0,1,1,0,0,0,0,0]) T.a9.fn λ_ _ _ _ _ _ hr nd=>(zc (p4 nd (pO (ky dY (ä (xc T.aX (ym T) hr (za xv (za dY ze))) dY)))) (zc (p4 nd (pO (ky xv (ä (ï (xc T.aX (ym T) hr (za xv (za dY ze))) dY) dY)))) (zc (AY (k:=0) (N:=["_law_k","_law_script"]) (om:=mO [0]) (cap:=[0]) (own:=1) nd (XI.cc (yh (n:=0) T.bB (za xv ze))) (λ_ _ _ _ _ h=>(nv h)) (λ_ _ _ _ _=>zy) (λ_ _ _ _ _=>(pO (ky (iY (fP (xg (k:=0) (zj (XE.ow (zn (n:=0))) (zj (XE.ow (zn (n:=0))) (zj (XE.ow (zn (n:=0))) (zj (XE.ow (zn (n:=0))) zx)))))) (ä (fP (ky (xc T.aX (ym T) hr (za xv (za dY ze))) xv)) dY)) (zq (k:=0) yb wn rfl T.bC w6 (za xv ze)))))) (zc (pZ nd (ä (xc T.aX (ym T) hr (za xv (za dY ze))) dY)) (zc (p4 nd (pO (ky dY (ä (xc T.aX (ym T) hr (za xv (za dY ze))) dY)))) (zc (AY (k:=1) (N:=["_law_k","_law_script","_law_many"]) (om:=mO [0]) (cap:=[0,1]) (own:=1) nd (XI.cc (yh (n:=0) T.bB (za xv ze))) (λ_ _ _ _ _ h=>(nv h)) (λ_ _ _ _ _=>zy) (λ_ _ _ _ _=>(lz T.a1 (T7 T) hr (za (xc T.aX (ym T) hr (za xv (za (fP (ky dY xv)) ze))) (za xv (za xv ze)))))) (zc (p4 nd (WF (c0:=6) T.h T.aV (S7 T) hr)) (zc (Gr (Hz (k:=0) (Ee hr.u64) qh (jw (i:=7) (c0:=6) (yW rfl) T.h.cl T.aW (xr T) hr (wq ug) (xx (fP (ky (zn (n:=0)) (Gb (k:=0) (zn (n:=0)) xv))) wu)) (zn (n:=0)) (i8 _)) (zh (iG (yz (n:=0)))) vp) (zc (Yy 6 λb=>(xF (Y4 6) (n8 nd) (zh (Gr (Hz (k:=0) (Ee hr.u64) qh (jw (i:=7) (c0:=6) (yW rfl) T.h.cl T.aW (xr T) hr (wq ug) (xx (xc T.a2 (UK T) hr (za xv (za xv ze))) wu)) (zn (n:=0)) (i8 _)) (zh (iG (yz (n:=0)))) vp)))) (zc (Gr (Yw (Yx (ND (i:=7) (yW rfl) T.a8 (MY T) hr (za xv (za xv (za xv (za xv ze))))))) (zh (iG (yz (n:=0)))) vp) (zc (p4 nd (lz T.aX (ym T) hr (za xv (za dY ze)))) (zc (pZ nd (ä xv xv)) (zc (pZ nd (ä (ï xv dY) dY)) (zc (Gr (Hz (k:=0) (Ee hr.u64) qh (jw (i:=7) (c0:=6) (yW rfl) T.h.cl T.aW (xr T) hr (wq ug) (xx (fP (ky (fP (ky (fP (ky (zn (n:=0)) (zq (k:=0) yb wn rfl T.bC w6 (za xv ze)))) (zn (n:=0)))) (zq (k:=0) yb wn rfl T.bC w6 (za xv ze)))) wu)) (zn (n:=0)) (i8 _)) (zh (iG (yz (n:=0)))) vp) (zc (OL 6 rfl xv (fP (ky (fP (VV (n:=0) (by decide) (AN xv xv) ju (xl dY))) (fP (Eh (zj (XE.ow xv) (zj (XE.ow (iY (AN xv xv) dY)) zx))))))) (zc (pZ nd (ä (ï xv dY) xv)) (zc (Gr (Hz (k:=0) (Ee hr.u64) qh (jw (i:=7) (c0:=6) (yW rfl) T.h.cl T.aW (xr T) hr (wq ug) (xx (fP (ky (zn (n:=0)) (zq (k:=0) yb wn rfl T.bC w6 (za xv ze)))) wu)) (zn (n:=0)) (i8 _)) (zh (iG (yz (n:=0)))) vp) (zh (Yv (ND (i:=7) (yW rfl) T.a8 (MY T) hr (za (XO.sh (n:=1) (ky (fP (xb (n:=1) (by decide) xv ju (xl xv))) (fP (xb (n:=1) (by decide) xv (xl (fP (ky xv dY))) ju)))) (za xv (za xv (za xv ze))))))))))))))))))))))))
end
local macro_rules| `(tactic|walk_at "mid")=>`(tactic|simp -implicitDefEqProofs [cl,Ù,ë,â,ø,é,Ú,Ñ,Ç,Ò,Ì,Ê,û,ì,ă,í,ô,Ø,Ý,vx,É,eC,e1,e2,eN,Å,Ä,î,Û,xf,tb,qj,Þ,ß,å,eB,ü,gV,gT,È,Ô,Ė,ĕ,vv,ē,vw,Ē,ya,Ĕ,Ĩ,ħ,ę,ė,D.isN,D.isB,ul,đ,vt,u7,Ĉ,Ę,ě,ĩ,Ě,xf,ĝ,Ĝ,ċ,Ħ,ĥ, *])
local macro_rules| `(tactic|walk_at "mie")=>`(tactic|simp -implicitDefEqProofs [cl,Ù,ë,â,ø,é,Ú,Ñ,Ç,Ò,Ì,Ê,û,ì,ă,í,ô,Ø,Ý,vx,É,eC,e1,e2,eN,Å,Ä,î,Û,xf,tb,qj,Þ,ß,å,eB,ü,gV,gT,È,Ô,Ė,ĕ,vv,ē,vw,Ē,ya,Ĕ,ul,đ,vt, *])
local macro_rules| `(tactic|walk_at "mit")=>`(tactic|simp -implicitDefEqProofs [cl,Ą,D.sc,Ù,Ñ,Ç,Ò,Ì,Ê,û,ì,ă,í,ô,Ø,Ý,vx,É,C,eC,e1,e2,eN,Å,Ä,î,Û,xf,tb,qj,Þ,ß,å,eB,ü,gV,gT,È,Ô,Ė,ĕ,vv,ē,vw,Ē,ya,Ĕ,ę,ė,D.isN,D.isB,ul,đ,ĝ,Ĝ, *])
noncomputable def eU (n:Nat)(f:Nat->Int):List D:=(cv n).map λg=>D.int (f g)
theorem OX (n:Nat)(f:Nat->Int):(eU n f).length=n:=by simp[eU]
theorem HQ {n:Nat}(f:Nat->Int){g:Nat}(h:g<n):atI (eU n f) (g:Int)=sI (f g):=by refine yc ?_;simp[eU,h]
theorem Y7 {n:Nat}(f:Nat->Int){g:Nat}(h:g<n)(v:Int):mI (eU n f) (g:Int) (.int v)=U (eU n λx=>if x=g then v else f x):=by
 unfold mI;have hx:ò (eU n f).length (g:Int)=U g:=by unfold ò;rw[OX];rw[if_pos (by omega),if_pos (by omega)];simp
 rw[hx];simp only[dN,Option.some.injEq];apply kT
 ·simp[eU]
 ·intro i h1 h2;simp[eU,rN];by_cases hi:g=i
  ·subst hi;simp
  ·rw[if_neg hi,if_neg (λz=>hi z.symm)]
variable {Z:L3.Env}
theorem OY {i:Nat}{fj f:EF}{gi:Int->Int->Int}{n g:Nat}{w:Nat->Int}{y:Int}(h1:(Z[i]?).join=sL (eU n w))(h2:fj Z=sI (g:Int))(h3:f Z=sI y)(hg:g<n) :
  vU i fj gi f Z=U (.nx (Z.set i (sL (eU n λx=>if x=g then gi (w g) y else w x)))):=by
 unfold vU;have:C i Z=sL (eU n w):=h1;rw[this,h2,h3];simp only[dN,HQ w hg,Y7 w hg]
noncomputable def eK (p:List Nat):List D:=p.map λ(x:Nat)=>D.int (x:Int)
theorem Gj {f:EF}{r:L3.Env}{n:Nat}(h:f r=sI (n:Int))(hn:n<=1000000):((Ä f Å) r).bind jS=U ((cv n).map λ(t:Nat)=>D.int (t:Int)):=by
 have e:(Ä f Å) r=U [.int (n:Int)]:=by unfold Ä;rw[h];rfl
 rw[e,dN,xw (by omega) (by omega)];unfold lI;simp
variable {α:Type}{cap:List Nat}{fi:L3.Env->Option (List D)}
theorem v6 {own:Nat}{g:D->L3.Env->Option L3.Env}{p:BF}{f:EF}{r:L3.Env}(enc:α->D)(q:α->Bool)(h:α->D)(xs:List α)(hi:fi r=U (xs.map enc))(hl:xs.length<=16777216)
  (st:∀x∈xs,∃ρ1,g (enc x) (cy own L++iB r cap)=U ρ1/\p ρ1=U (q x)/\(q x=Â->f ρ1=U (h x))):eJ fi own cap g p f r=sL ((xs.filter q).map h):=by
 unfold eJ;rw[hi];simp only[dN,cA];rw[if_pos hl,Ny enc q h xs st];rfl
theorem OZ {n i:Nat}(h:i<n):ò n (i:Int)=U i:=by unfold ò;rw[if_pos (by omega),if_pos (by omega)];simp
theorem zt {own:Nat}{g:D->L3.Env->Option L3.Env}{f:EF}{r:L3.Env}(enc:α->D)(h:α->D)(xs:List α)(hi:fi r=U (xs.map enc))(hl:xs.length<=16777216)
  (st:∀x∈xs,∃ρ1,g (enc x) (cy own L++iB r cap)=U ρ1/\f ρ1=U (h x)):eJ fi own cap g fW f r=sL (xs.map h):=by
 have:=v6 (p:=fW) enc (λ_=>Â) h xs hi hl λx hx=>by obtain⟨ρ1,h1,h2⟩:=st x hx;exact⟨ρ1,h1,rfl,λ_=>h2⟩
 rw[this,List.filter_eq_self.mpr λ_ _=>rfl]
theorem Hi {α:Type}(enc:α->D):∀(J:List α) (k:Nat),iX k (J.map enc)=(J.zipIdx k).map λ(p:α×Nat)=>D.tup [.int (p.2:Int),enc p.1]
 |[],_=>rfl
 |a::J,k=>by show _::iX (k+1) (J.map enc)=_::_;rw[Hi enc J (k+1)]
theorem PR {J:List α}{p:α×Nat}(h:p∈J.zipIdx):J[p.2]?=U p.1:=sA.mp h
theorem j7 {α:Type}(q:α->Bool):∀(J:List α) (k:Nat),((J.zipIdx k).filter λp=>q p.1).map (·.1)=J.filter q
 |[],_=>rfl
 |a::J,k=>by rw[rP,rM,rM];cases h:q a<;>simp[h,j7 q J (k+1)]
inductive Kd where
 |ride|wait|back
deriving DecidableEq
structure gx where
 c:Kd
 s:Nat
 g:Nat
 t:Int
 b:Nat
deriving DecidableEq
variable {P:List Nat}{W:List gx}{Î mv:Nat}
namespace Ü
def cnt (W:List gx)(P:List Nat)(g:Nat):Nat:=W.countP λa=>decide (a.g=g/\a.s∉P)
structure Ok (W:List gx)(mv:Nat)(p:List Nat):Prop where
 nd:p.Nodup
 lt:∀x∈p,x<mv
 ord:∀(i x:Nat),p[i]?=U x->∀a∈W,a.g=x->a.s∈p.take i
theorem Ok.snoc {p:List Nat}{x:Nat}(h:Ok W mv p)(hx:x∉p)(hl:x<mv)(ho:∀a∈W,a.g=x->a.s∈p):Ok W mv (p++[x]) where
 nd:=by rw[cT];exact⟨h.nd,by simp,λa ha b hb e=>by simp at hb;subst hb;subst e;exact hx ha⟩
 lt:=λy hy=>by
  rcases cW.mp hy with hy|hy
  ·exact h.lt y hy
  ·simp at hy;subst hy;exact hl
 ord:=λi y hy a ha e=>by
  by_cases hi:i<p.length
  ·rw[fE hi]at hy;rw[lh (by omega)];exact h.ord i y hy a ha e
  ·rw[iM (by omega)]at hy;have IR:i-p.length=0:=by
    cases hq:i-p.length with
    |zero=>rfl
    |succ k=>rw[hq]at hy;simp at hy
   rw[IR]at hy;simp at hy;subst hy;have:i=p.length:=by omega
   rw[this,A6]
   ·exact ho a ha e
   ·rfl
def stp (Î:Nat)(ϙ:(Nat->Int)×List Nat)(a:gx):(Nat->Int)×List Nat :=
 if a.s=Î then
  let f':Nat->Int:=λx=>if x=a.g then ϙ.1 a.g-1 else ϙ.1 x
  (f',if f' a.g=0 then ϙ.2++[a.g]else ϙ.2)
 else ϙ
structure In (W:List gx)(mv:Nat)(P:List Nat)(Î:Nat)(pre:List gx)(ϙ:(Nat->Int)×List Nat):Prop where
 ok:Ok W mv ϙ.2
 f:∀g,ϙ.1 g=(cnt W P g:Int)-(pre.countP λa=>decide (a.g=g/\a.s=Î):Nat)
 z:∀g,g<mv->(g∈ϙ.2↔ϙ.1 g=0)
 sub:∀x,(x∈P\/x=Î)->x∈ϙ.2
theorem Ũ {pre post:List gx}{a:gx}(e:W=pre++a::post)(hP:Î∉P)(ha:a.s=Î):(pre.countP λx=>decide (x.g=a.g/\x.s=Î))+1<=cnt W P a.g:=by
 unfold cnt;rw[e,mj,kS];have h1:(pre.countP λx=>decide (x.g=a.g/\x.s=Î))<=pre.countP λx=>decide (x.g=a.g/\x.s∉P):=by apply List.countP_mono_left;intro x _ hx;simp at hx ⊢;exact⟨hx.1,by rw[hx.2];exact hP⟩
 have h2:(decide (a.g=a.g/\a.s∉P))=Â:=by simp[ha,hP]
 rw[h2];simp only[if_true];omega
theorem In.step {pre post:List gx}{a:gx}{ϙ:(Nat->Int)×List Nat}(h:In W mv P Î pre ϙ)(e:W=pre++a::post)(hP:Î∉P)(hl:a.g<mv):In W mv P Î (pre++[a]) (stp Î ϙ a):=by
 by_cases ha:a.s=Î
 ·have Rp:=Ũ e hP ha;have hf:∀g,(if g=a.g then ϙ.1 a.g-1 else ϙ.1 g)=(cnt W P g:Int)-((pre++[a]).countP λx=>decide (x.g=g/\x.s=Î):Nat):=λg=>by
   rw[mj,wC];by_cases hg:g=a.g
   ·subst hg;rw[if_pos rfl,h.f];have:decide (a.g=a.g/\a.s=Î)=Â:=by simp[ha]
    rw[this];simp only[if_true];omega
   ·rw[if_neg hg,h.f];have:decide (a.g=g/\a.s=Î)=Ã:=by simp;intro z;exact absurd z.symm hg
    rw[this];simp
  have xG:ϙ.1 a.g≠0:=by rw[h.f];omega
  have Fe:a.g∉ϙ.2:=λz=>xG ((h.z a.g hl).mp z);by_cases h0:ϙ.1 a.g-1=0
  ·have es:stp Î ϙ a=(λx=>if x=a.g then ϙ.1 a.g-1 else ϙ.1 x,ϙ.2++[a.g]):=by unfold stp;simp[ha,h0]
   rw[es];refine⟨h.ok.snoc Fe hl λb hb eb=>?_,hf,λg hg=>?_,λx hx=>c7 _ (h.sub x hx)⟩
   ·
    refine h.sub _ (Classical.byContradiction λhc=>?_);have GU:b.s∉P:=λz=>hc (.inl z);have C7:b.s≠Î:=λz=>hc (.inr z);have h1:cnt W P a.g=(pre.countP λx=>decide (x.g=a.g/\x.s=Î))+1:=by have:=h.f a.g;omega
    have h2:(W.countP λx=>decide (x.g=a.g/\x.s=Î))+(W.countP λx=>decide (x.g=a.g/\x.s∉P/\x.s≠Î))<=cnt W P a.g:=by
     have:cnt W P a.g=(W.countP λx=>decide (x.g=a.g/\x.s=Î))+(W.countP λx=>decide (x.g=a.g/\x.s∉P/\x.s≠Î)):=by
      unfold cnt;clear h1 hc GU C7 eb hb h0 hf Rp e h;induction W with
      |nil=>rfl
      |cons x W ih=>simp only[kS];rw[ih];by_cases q1:x.g=a.g<;>by_cases q2:x.s=Î<;>by_cases q3:x.s∈P<;>simp_all<;>omega
     omega
    have h3:(pre.countP λx=>decide (x.g=a.g/\x.s=Î))+1<=W.countP λx=>decide (x.g=a.g/\x.s=Î):=by
     rw[e,mj,kS];have:decide (a.g=a.g/\a.s=Î)=Â:=by simp[ha]
     rw[this];simp only[if_true];omega
    have h4:0<W.countP λx=>decide (x.g=a.g/\x.s∉P/\x.s≠Î):=by rw[List.countP_pos_iff];exact⟨b,hb,by simp[eb,GU,C7]⟩
    omega
   ·rw[cW,cG];by_cases Bo:g=a.g
    ·subst Bo;simp[h0]
    ·dsimp only;rw[if_neg Bo,h.z g hg];simp[Bo]
  ·have es:stp Î ϙ a=(λx=>if x=a.g then ϙ.1 a.g-1 else ϙ.1 x,ϙ.2):=by unfold stp;simp[ha,h0]
   rw[es];refine⟨h.ok,hf,λg hg=>?_,h.sub⟩;by_cases Bo:g=a.g
   ·subst Bo;dsimp only;rw[if_pos rfl];exact⟨λz=>absurd z Fe,λz=>absurd z h0⟩
   ·dsimp only;rw[if_neg Bo];exact h.z g hg
 ·have:stp Î ϙ a=ϙ:=by unfold stp;rw[if_neg ha]
  rw[this];refine⟨h.ok,λg=>?_,h.z,h.sub⟩;rw[mj,wC];have:decide (a.g=g/\a.s=Î)=Ã:=by simp[ha]
  rw[this,h.f];simp
theorem In.fold {W:List gx}{mv:Nat}{P:List Nat}{Î:Nat}(hP:Î∉P)(hl:∀a∈W,a.g<mv):∀(post pre:List gx) (ϙ:(Nat->Int)×List Nat),W=pre++post->In W mv P Î pre ϙ->In W mv P Î W (post.foldl (stp Î) ϙ)
 |[],pre,ϙ,e,h=>by rw[e] ;simpa using(by rw[dA]at e;subst e;exact h)
 |a::post,pre,ϙ,e,h=>by have:=In.fold hP hl post (pre++[a]) (stp Î ϙ a) (by rw[e];simp) (h.step e hP (hl a (by rw[e];simp)));exact this
theorem Xp {g:Nat}(hP:Î∉P):(cnt W P g:Int)-(W.countP λa=>decide (a.g=g/\a.s=Î):Nat)=cnt W (P++[Î]) g:=by
 have:cnt W P g=(W.countP λa=>decide (a.g=g/\a.s=Î))+cnt W (P++[Î]) g:=by
  unfold cnt;induction W with
  |nil=>rfl
  |cons x W ih=>simp only[kS];rw[ih];by_cases q1:x.g=g<;>by_cases q2:x.s=Î<;>by_cases q3:x.s∈P<;>simp_all<;>omega
 omega
structure Wh (W:List gx)(mv:Nat)(f:Nat->Int)(p:List Nat)(d:Nat):Prop where
 ok:Ok W mv p
 dl:d<=p.length
 fe:∀g,f g=cnt W (p.take d) g
 z:∀g,g<mv->(g∈p↔f g=0)
theorem Wh.step {f:Nat->Int}{p:List Nat}{d:Nat}(h:Wh W mv f p d)(hl:∀a∈W,a.g<mv)(hh:p[d]?=U Î) :
  Wh W mv (W.foldl (stp Î) (f,p)).1 (W.foldl (stp Î) (f,p)).2 (d+1)/\∃q,(W.foldl (stp Î) (f,p)).2=p++q:=by
 have hd:d<p.length:=(de.mp hh).1;have hP:Î∉p.take d:=λz=>by
  obtain⟨i,hi,e⟩:=iN.mp z;have IR:i<d:=by rw[fK]at hi;omega
  rw[zW]at e;have e2:p[d]=Î:=by have:=de.mp hh;exact this.2
  have:=(nB (xs:=p) (h₀:=by omega) (h₁:=hd) h.ok.nd).mp (e.trans e2.symm);omega
 have IK:∀(l:List gx) (ϙ:(Nat->Int)×List Nat),∃q,(l.foldl (stp Î) ϙ).2=ϙ.2++q:=by
  intro l;induction l with
  |nil=>exactλϙ=>⟨[],by simp⟩
  |cons a l ih=>
   intro ϙ;obtain⟨q,hq⟩:=ih (stp Î ϙ a);have:∃r,(stp Î ϙ a).2=ϙ.2++r:=by
    by_cases ha:a.s=Î
    ·by_cases h0:ϙ.1 a.g-1=0
     ·exact⟨[a.g],by unfold stp;simp[ha,h0]⟩
     ·exact⟨[],by unfold stp;simp[ha,h0]⟩
    ·exact⟨[],by unfold stp;simp[ha]⟩
   obtain⟨r,hr⟩:=this;exact⟨r++q,by rw[iy,hq,hr,dR]⟩
 obtain⟨q,hq⟩:=IK W (f,p);have I:=In.fold hP hl W [] (f,p) rfl ⟨h.ok,λg=>by show f g=_;rw[h.fe];simp,h.z,λx hx=>by
  rcases hx with hx|rfl
  ·exact iO hx
  ·exact fF.mpr ⟨d,hh⟩⟩
 have t7:(W.foldl (stp Î) (f,p)).2.take (d+1)=p.take d++[Î]:=by rw[hq];show(p++q).take (d+1)=_;rw[lh (by assumption),tN,hh];rfl
 refine⟨⟨I.ok,?_,λg=>?_,I.z⟩,q,hq⟩
 ·rw[hq];show d+1<=(p++q).length;rw[cV];omega
 ·rw[I.f,t7];exact Xp hP
theorem cnt_zero {g:Nat}:cnt W P g=0↔∀a∈W,a.g=g->a.s∈P:=by
 unfold cnt;rw[List.countP_eq_zero];constructor
 ·intro h a ha e;have:=h a ha;simp at this;exact Classical.byContradiction λz=>z (this e)
 ·intro h a ha;simp;exact h a ha
theorem Wh.all {f:Nat->Int}{p:List Nat}(h:Wh W mv f p p.length)(rank:Nat->Nat)(hr:∀a∈W,rank a.s<rank a.g)(hs:∀a∈W,a.s<mv):∀g,g<mv->g∈p:=by
 have:∀n g,rank g<n->g<mv->g∈p:=by
  intro n;induction n with
  |zero=>intro g h;omega
  |succ n ih=>intro g hg hl;rw[h.z g hl,h.fe,rO];have:cnt W p g=0:=cnt_zero.mpr λa ha e=>ih a.s (by have:=hr a ha;rw[e]at this;omega) (hs a ha);rw[this];rfl
 exactλg hl=>this (rank g+1) g (by omega) hl
theorem len_of {p:List Nat}(nd:p.Nodup)(lt:∀x∈p,x<mv)(all:∀g,g<mv->g∈p):p.length=mv:=by
 have h1:p.Perm (cv mv):=by rw[tM nd nE];intro a;rw[cD];exact⟨lt a,all a⟩
 simpa using h1.length_eq
theorem len_le {p:List Nat}(nd:p.Nodup)(lt:∀x∈p,x<mv):p.length<=mv:=by
 have h1:(p++(cv mv).filter λx=>decide (x∉p)).Perm (cv mv):=by
  rw[tM (by rw[cT];refine⟨nd,nE.filter _,λa ha b hb e=>?_⟩;subst e;simp at hb;exact hb.2 ha) nE];intro a;rw[cW,cR,cD];constructor
  ·rintro(h|h)
   ·exact lt a h
   ·exact h.1
  ·intro h;by_cases ha:a∈p
   ·exact .inl ha
   ·exact .inr ⟨h,by simpa using ha⟩
 have:=h1.length_eq;rw[cV,eD]at this;omega
end Ü
def Kd.n:Kd->Nat
 |.ride=>1|.wait=>2|.back=>3
def c9 (a:gx):D:=.obj a.c.n ["start","goal","time","behind"] [.int a.s,.int a.g,.int a.t,.int a.b]
theorem fs (a:gx):dH [0,1,2,3] "start" (c9 a)=sI a.s:=by obtain⟨c,_,_,_,_⟩:=a;cases c<;>rfl
theorem fg (a:gx):dH [0,1,2,3] "goal" (c9 a)=sI a.g:=by obtain⟨c,_,_,_,_⟩:=a;cases c<;>rfl
theorem ft (a:gx):dH [0,1,2,3] "time" (c9 a)=sI a.t:=by obtain⟨c,_,_,_,_⟩:=a;cases c<;>rfl
theorem fb (a:gx):dH [0,1,2,3] "behind" (c9 a)=sI a.b:=by obtain⟨c,_,_,_,_⟩:=a;cases c<;>rfl
structure Ā (mv:Nat)(a:gx):Prop where
 s:a.s<mv
 g:a.g<mv
 t0:0<=a.t
 t1:a.t<=1000000000
 b:a.b<=4
 r:a.c=.ride->a.b=0
 k:a.c=.back->1<=a.b
theorem uc {n l m:Int}(h1:l<=n)(h2:n<=m):et [.int n,.int l,.int m]=U (.bl Â):=by unfold et;have q1 (i:Int):sM "int" (.int i)=U (.bl Â):=rfl;have q2 (i:Int):sM "bool" (.int i)=U (.bl Ã):=rfl;walk_at "mid"
theorem Ĭ (all sub:List Nat)(a:gx):xH all sub (c9 a)=if all.contains a.c.n=Â then U (.bl (sub.contains a.c.n))else L:=rfl
theorem Y8 {a:gx}(h:Ā mv a):nJ [c9 a,.int (mv:Int)]=U (.bl Â):=by
 have w1:et [.int (a.s:Int),.int 0,.int ((mv:Int)-1)]=U (.bl Â):=uc (by omega) (by have:=h.s;omega);have w2:et [.int (a.g:Int),.int 0,.int ((mv:Int)-1)]=U (.bl Â):=uc (by omega) (by have:=h.g;omega);have w3:et [.int a.t,.int 0,.int 1000000000]=U (.bl Â):=uc h.t0 h.t1;have f1:=fs a;have f2:=fg a;have f3:=ft a;have f4:=fb a;have hi:=λall sub=>Ĭ all sub a;have hb:=h.b;have hr:=h.r;have hk:=h.k;clear h;unfold nJ;cases hc:a.c with
 |ride=>have w4:et [.int (a.b:Int),.int 0,.int 0]=U (.bl Â):=uc (by omega) (by have:=hr hc;omega);rw[hc]at hi;clear hr hk hb;have hn:Kd.ride.n=1:=rfl;walk_at "mid"
 |wait=>have w4:et [.int (a.b:Int),.int 0,.int 4]=U (.bl Â):=uc (by omega) (by omega);rw[hc]at hi;clear hr hk hb;have hn:Kd.wait.n=2:=rfl;walk_at "mid"
 |back=>have w4:et [.int (a.b:Int),.int 1,.int 4]=U (.bl Â):=uc (by have:=hk hc;omega) (by omega);rw[hc]at hi;clear hr hk hb;have hn:Kd.back.n=3:=rfl;walk_at "mid"
def W0 (J:List gx):List gx:=J.filter λa=>decide (a.b=0)
theorem TY (J:List gx)(l:J.length<=16777216)(r:L3.Env)(h:r[1]?.join=sL (J.map c9)) :
  mH r=sL ((W0 J).map c9):=by
 have e:Ý (C 1) r=U (J.map c9):=by unfold Ý;have:C 1 r=sL (J.map c9):=h;rw[this];rfl
 refine v6 c9 (λa=>decide (a.b=0)) c9 J e l λa _=>⟨_,rfl,?_,λ_=>rfl⟩;have:=fb a;walk_at "mid"
def ET (s:(Nat->Int)×Option D)(a:gx):(Nat->Int)×Option D:=(λx=>if x=a.g then s.1 a.g+1 else s.1 x,U (c9 a))
theorem Oa:∀(W:List gx) (s:(Nat->Int)×Option D) (g:Nat),(W.foldl ET s).1 g=s.1 g+(W.countP λa=>decide (a.g=g):Nat)
 |[],s,g=>by simp
 |a::W,s,g=>by
  rw[iy,Oa W,kS];by_cases hg:g=a.g
  ·subst hg;simp[ET];omega
  ·have:decide (a.g=g)=Ã:=by simp;exactλz=>hg z.symm
   simp[ET,hg,this]
theorem Ob (p:List Nat)(x:Nat):eK p++[D.int (x:Int)]=eK (p++[x]):=by simp[eK]
variable {J:List gx}
theorem Y9 {f:Nat->Int}{p:List Nat}{d:Nat}{x4:Option D}(hm:mv<=1000)(hW:∀a∈W0 J,a.s<mv/\a.g<mv)(h:Ü.Wh (W0 J) mv f p d)(hh:p[d]?=U Î) :
  ∃x,gX (gV 4) gE ((W0 J).map c9) [sI (mv:Int),sL (J.map c9),sL ((W0 J).map c9),sL (eU mv f),x4,sL (eK p),sI (d:Int),sI (Î:Int)] =
   U (.nx [sI (mv:Int),sL (J.map c9),sL ((W0 J).map c9),sL (eU mv ((W0 J).foldl (Ü.stp Î) (f,p)).1),x,sL (eK ((W0 J).foldl (Ü.stp Î) (f,p)).2),sI (d:Int),sI (Î:Int)]):=by
 have hd:d<p.length:=(de.mp hh).1;have hP:Î∉p.take d:=λz=>by
  obtain⟨i,hi,e⟩:=iN.mp z;have IR:i<d:=by rw[fK]at hi;omega
  rw[zW]at e;have e2:p[d]=Î:=(de.mp hh).2;have:=(nB (xs:=p) (h₀:=by omega) (h₁:=hd) h.ok.nd).mp (e.trans e2.symm);omega
 obtain⟨ρ',h1,x,pre,e1,e2⟩:=ub (g:=gV 4) (b:=gE) (S:=(W0 J).map c9) (Z:=[sI (mv:Int),sL (J.map c9),sL ((W0 J).map c9),sL (eU mv f),x4,sL (eK p),sI (d:Int),sI (Î:Int)])
  (λS Z=>∃x pre,S=pre.map c9/\(∃post,W0 J=pre++post)/\Ü.In (W0 J) mv (p.take d) Î pre (pre.foldl (Ü.stp Î) (f,p))/\Z=[sI (mv:Int),sL (J.map c9),sL ((W0 J).map c9),sL (eU mv (pre.foldl (Ü.stp Î) (f,p)).1),x,sL (eK (pre.foldl (Ü.stp Î) (f,p)).2),sI (d:Int),sI (Î:Int)])
  ⟨x4,[],rfl,⟨_,rfl⟩,⟨h.ok,λg=>by show f g=_;rw[h.fe];simp,h.z,λx hx=>by
   rcases hx with hx|rfl
   ·exact iO hx
   ·exact fF.mpr ⟨d,hh⟩⟩,rfl⟩ (by
  rintro S dd post Z e ⟨x,pre,rfl,⟨oM,e'⟩,I,rfl⟩;rw[e',fV]at e;have e3:=uU e;cases oM with
  |nil=>cases e3
  |cons a oM=>
   rw[cL]at e3;cases e3;have ha:a∈W0 J:=by rw[e'];simp
   have hl:=Ü.len_le I.ok.nd I.ok.lt;have I2:=I.step e' hP (hW a ha).2;refine⟨_,_,rfl,.inl ?_,U (c9 a),pre++[a],by simp,⟨oM,by rw[e'];simp⟩,by rw[zU];exact I2,rfl⟩;rw[zU];generalize pre.foldl (Ü.stp Î) (f,p)=ϙ at hl;show gE _=U (.nx [_,_,_,sL (eU mv (Ü.stp Î ϙ a).1),_,sL (eK (Ü.stp Î ϙ a).2),_,_]);have f1:=fs a;have f2:=fg a;have iu:(eK ϙ.2).length<16777216:=by simp[eK];omega
   unfold gE;by_cases hs:a.s=Î
   ·have BI:((a.s:Nat):Int)=(Î:Int):=by rw[hs]
    have au:=OY (i:=3) (fj:=e1 (dH [0,1,2,3] "goal") (C 4)) (f:=eC (.int 1)) (gi:=λi j=>i-j) (Z:=[sI (mv:Int),sL (J.map c9),sL ((W0 J).map c9),sL (eU mv ϙ.1),U (c9 a),sL (eK ϙ.2),sI (d:Int),sI (Î:Int)]) (n:=mv) (g:=a.g) (w:=ϙ.1) (y:=1) rfl (by walk_at "mid") rfl (hW a ha).2;have va:dX (.lst (eU mv λx=>if x=a.g then ϙ.1 a.g-1 else ϙ.1 x)) (.int (a.g:Int))=sI (ϙ.1 a.g-1):=by have:=HQ (λx=>if x=a.g then ϙ.1 a.g-1 else ϙ.1 x) (hW a ha).2;rw[if_pos rfl]at this;exact this
    by_cases h0:ϙ.1 a.g-1=0
    ·have es:Ü.stp Î ϙ a=(λx=>if x=a.g then ϙ.1 a.g-1 else ϙ.1 x,ϙ.2++[a.g]):=by unfold Ü.stp;simp[hs,h0]
     rw[es,←Ob];rw[h0]at va;clear I I2 e' es;walk_at "mid"
    ·have es:Ü.stp Î ϙ a=(λx=>if x=a.g then ϙ.1 a.g-1 else ϙ.1 x,ϙ.2):=by unfold Ü.stp;simp[hs,h0]
     rw[es];clear I I2 e' es;walk_at "mid"
   ·have es:Ü.stp Î ϙ a=ϙ:=by unfold Ü.stp;rw[if_neg hs]
    rw[es];have BI:¬((a.s:Nat):Int)=(Î:Int):=by omega
    clear I I2 e' es;walk_at "mid")
 obtain⟨⟨post,e2⟩,I,rfl⟩:=e2;have:pre=W0 J:=by have:=congrArg mU e1;rw[cA,cA]at this;rw[e2,cV]at this;have hp:post=[]:=sg (by omega);rw[e2,hp,dA]
 rw[this]at h1;exact⟨x,h1⟩
theorem Xq (J:List gx)(l:J.length<=1000)(hm:mv<=1000)(hs:∀a∈J,a.s<mv/\a.g<mv) :
  ∃(f:Nat->Int) (p:List Nat),gD [.int (mv:Int),.lst (J.map c9)]=sL (eK p)/\Ü.Wh (W0 J) mv f p p.length:=by
 have hW:∀a∈W0 J,a.s<mv/\a.g<mv:=λa ha=>hs a (cR.mp ha).1;obtain⟨c1,_⟩:=Kg (g:=gV 4) (b:=kd) c9 (λs:(Nat->Int)×Option D=>[sI (mv:Int),sL (J.map c9),sL ((W0 J).map c9),sL (eU mv s.1),s.2,L,L,L])
  ET (λ_=>True) (W0 J) (λ_=>0,L) trivial (λs a ha _=>by
   refine⟨_,rfl,.inl ?_,trivial⟩;unfold kd;have f2:=fg a;rw[OY (n:=mv) (g:=a.g) (w:=s.1) (y:=1) rfl (by walk_at "mid") rfl (hW a ha).2]
   rfl)
 have c2:=Oa (W0 J) (λ_=>0,L);generalize Ra:(W0 J).foldl ET (λ_=>0,L)=S0 at c1 c2;obtain⟨f0,y4⟩:=S0;dsimp only at c1 c2;have Jd:∀r:L3.Env,r[0]?.join=sI (mv:Int)->r[3]?.join=sL (eU mv f0)->mG r=sL (eK ((cv mv).filter λg=>decide (f0 g=0))):=by
  intro r h0 h3;refine v6 (λ(t:Nat)=>D.int (t:Int)) (λg=>decide (f0 g=0)) (λ(t:Nat)=>D.int (t:Int)) (cv mv) (Gj h0 (by omega)) (by rw[eD];omega) ?_
  ·intro g hg;refine⟨_,rfl,?_,λ_=>rfl⟩;have hg:g<mv:=cD.mp hg;have hv:dX (.lst (eU mv f0)) (.int (g:Int))=sI (f0 g):=HQ f0 hg;have hc:iB r [3]=[sL (eU mv f0)]:=by unfold iB;simp[h3]
   rw[hc];walk_at "mid"
 generalize hq:((cv mv).filter λg=>decide (f0 g=0))=p0 at Jd;have w0:Ü.Wh (W0 J) mv f0 p0 0:=by
  have hf:∀g,f0 g=Ü.cnt (W0 J) [] g:=λg=>by rw[c2 g];unfold Ü.cnt;simp
  refine⟨⟨by rw[←hq];exact nE.filter _,λx hx=>by rw[←hq,cR,cD]at hx;exact hx.1,λi x hx a ha e=>?_⟩,by omega,hf,λg hg=>by rw[←hq,cR,cD];simp[hg]⟩;have Fl:x∈p0:=fF.mpr ⟨i,hx⟩;rw[←hq,cR]at Fl;have h0:f0 x=0:=by simpa using Fl.2
  rw[hf]at h0;have:=Ü.cnt_zero.mp (by exact_mod_cast h0) a ha e;cases this
 obtain⟨ρ',h1,⟨f,p,d,x4,x7,rfl,wh⟩,h3⟩:=jv (c:=tb (e2 tL (C 6) (eN ee (Ä (C 5) Å)))) (b:=kc)
  (λZ=>∃f p d x4 x7,Z=[sI (mv:Int),sL (J.map c9),sL ((W0 J).map c9),sL (eU mv f),x4,sL (eK p),sI ((d:Nat):Int),x7]/\Ü.Wh (W0 J) mv f p d)
  (λZ:L3.Env=>match Z[6]? with|some (U (D.int i))=>(1001-i).toNat|_=>0) (by
   rintro Z ⟨f,p,d,x4,x7,rfl,wh⟩;have hl:(eK p).length=p.length:=by simp[eK]
   refine⟨decide ((d:Int)<(p.length:Int)),by walk_at "mid",λht=>?_⟩;have hd:d<p.length:=by simpa using ht
   have hh:p[d]?=U p[d]:=by simp[hd]
   obtain⟨x,tK⟩:=Y9 (x4:=x4) hm hW wh hh;obtain⟨Ga,q,_⟩:=wh.step (λa ha=>(hW a ha).2) hh;have ox:=Ü.len_le Ga.ok.nd Ga.ok.lt;have BE:=Ga.dl;refine⟨_,.inl ?_,⟨_,_,d+1,x,sI (p[d]:Int),rfl,Ga⟩,?_⟩
   ·have Ru:dX (.lst (eK p)) (.int (d:Int))=sI (p[d]:Int):=yc (by simp[eK,hd]);have hau:i2 (λi j=>D.int (i+j)) (.int (d:Int)) (.int 1)=sI ((d+1:Nat):Int):=by simp[i2]
    unfold kc AW;clear wh Ga ox BE;walk_at "mid"
   ·show(1001-((d+1:Nat):Int)).toNat<(1001-(d:Int)).toNat
    omega) vN [sI (mv:Int),sL (J.map c9),sL ((W0 J).map c9),sL (eU mv f0),y4,sL (eK p0),sI ((0:Nat):Int),L] ⟨f0,p0,0,y4,L,rfl,w0⟩ (by
   show(1001-((0:Nat):Int)).toNat<vN;have:(1001:Nat)<vN:=ON (by decide)
   omega)
 have hd:d=p.length:=by
  have hl:(eK p).length=p.length:=by simp[eK]
  have h4:(tb (e2 tL (C 6) (eN ee (Ä (C 5) Å)))) [sI (mv:Int),sL (J.map c9),sL ((W0 J).map c9),sL (eU mv f),x4,sL (eK p),sI (d:Int),x7]=U (decide ((d:Int)<(p.length:Int))):=by walk_at "mid"
  rw[h4]at h3;have:=wh.dl;simp at h3;omega
 subst hd;refine⟨f,p,?_,wh⟩;have r1:=TY J (by omega);have rp:sV (.lst [.int 0]) (.int (mv:Int))=sL (eU mv λ_=>0):=by unfold sV;dsimp only;rw[if_pos ⟨by omega,by omega,by simp⟩];congr 2;unfold eU;rw[sx,eD];simp
 rw[show(((0:Nat):Int))=0 from rfl]at h1;unfold gD qV;clear hs hW c2 Ra hq w0 wh h3 l hm;walk_at "mid"
def cJ (ns:List D)(J:List gx):D:=.obj 4 ["names","arrows"] [.lst ns,.lst (J.map c9)]
structure gY (mv:Nat)(J:List gx):Prop where
 pos:1<=mv
 le:mv<=40
 len:J.length<=120
 right:∀a∈J,Ā mv a
 rank:∃rank:Nat->Nat,∀a∈J,a.b=0->rank a.s<rank a.g
theorem gY.placed (h:gY mv J):∃p:List Nat,gD [.int (mv:Int),.lst (J.map c9)]=sL (eK p)/\Ü.Ok (W0 J) mv p/\p.length=mv/\∀g,g<mv->g∈p:=by obtain⟨f,p,h1,h2⟩:=Xq (mv:=mv) J (by have:=h.len;omega) (by have:=h.le;omega) (λa ha=>⟨(h.right a ha).s,(h.right a ha).g⟩);obtain⟨rank,hr⟩:=h.rank;have all:=h2.all rank (λa ha=>by have:=cR.mp ha;exact hr a this.1 (by simpa using this.2)) (λa ha=>(h.right a (cR.mp ha).1).s);exact⟨p,h1,h2.ok,Ü.len_of h2.ok.nd h2.ok.lt all,all⟩
variable {ns:List D}
theorem Qd (h:gY mv J)(hn:ns.length=mv)(hnm:gF [.lst ns]=U (.bl Â)):fL 4 [.lst ns,.lst (J.map c9)]=U (cJ ns J):=by
 obtain⟨p,hp,_,hl,_⟩:=h.placed;have iu:=h.len;obtain⟨ρ',h1,x3,x4,rfl⟩:=ub (g:=gT (È (gV 3) (È (gV 4) Ô))) (b:=lP) (S:=iX 0 (J.map c9)) (Z:=[U (.obj 4 [] []),sL ns,sL (J.map c9),L,L,L])
  (λ_ Z=>∃x3 x4,Z=[U (.obj 4 [] []),sL ns,sL (J.map c9),x3,x4,L]) ⟨L,L,rfl⟩ (by rintro pre d post Z e ⟨x3,x4,rfl⟩;obtain⟨x,hx,rfl⟩:=Kf (HJ e);rw[dm]at hx;obtain⟨a,ha,rfl⟩:=ka.mp hx;have hr:=Y8 (h.right a (fF.mpr ⟨_,ha⟩));refine⟨_,_,rfl,.inl ?_,sI (0+pre.length:Nat),U (c9 a),rfl⟩;unfold lP;rw[←hn]at hr;clear hp hl hn iu h;walk_at "mid")
 have hz:(eK p).length=mv:=by simp[eK,hl]
 have hgt:¬((J.length:Int) > 120):=by omega
 rw[←hn]at hp hz;have l1:∀S:List D,rE [.lst S]=sL S:=λ_=>rfl;have s1:m9 [4] "names" (eN rE (Ä (C 1) Å)) [U (D.obj 4 [] []),sL ns,sL (J.map c9),x3,x4,sL (eK p)]=U (.nx [U (D.obj 4 ["names"] [.lst ns]),sL ns,sL (J.map c9),x3,x4,sL (eK p)]):=rfl;have s2:m9 [4] "arrows" (eN rE (Ä (C 2) Å)) [U (D.obj 4 ["names"] [.lst ns]),sL ns,sL (J.map c9),x3,x4,sL (eK p)]=U (.nx [U (cJ ns J),sL ns,sL (J.map c9),x3,x4,sL (eK p)]):=rfl;clear h iu hl hn;unfold fL BL;walk_at "mid"
theorem Nt {α:Type}(f:α->Bool):∀xs:List α,oG (xs.map λx=>D.bl (f x))=U (xs.map f)
 |[]=>rfl
 |x::xs=>by show(oG (xs.map λx=>D.bl (f x))).bind _=_;rw[Nt f xs];rfl
theorem all_map (f:α->Bool)(xs:List α):lm [.lst (xs.map λx=>D.bl (f x))]=U (.bl (xs.all f)):=by show(oG _).bind _=_;rw[Nt];show U (D.bl ((xs.map f).all id))=_;rw[List.all_map];rfl
def cx (ws:List Str):D:=.lst (ws.map D.str)
theorem Nu:∀ys:List Str,rJ (ys.map .str)=U ys
 |[]=>rfl
 |y::ys=>by show(rJ (ys.map .str)).bind _=_;rw[Nu ys];rfl
theorem Gs {b:Nat}:∀{ys:List Str},(∀y∈ys,y.length<=b)->(ys.map (·.length)).sum<=ys.length*b
 |[],_=>by simp
 |y::ys,h=>by have h1:=h y cg;have h2:=Gs (b:=b) (ys:=ys) λz hz=>h z (ck _ hz);rw[cL,Cf,cB,wH];omega
theorem Hj (sp:Str):∀ys:List Str,(Str.join sp ys).length<=(ys.map (·.length)).sum+ys.length*sp.length
 |[]=>by unfold Str.join;exact gn _
 |[y]=>by unfold Str.join;simp
 |y::z::ys=>by have ih:=Hj sp (z::ys);unfold Str.join;rw[vz,vz];simp only[cL,Cf,cB]at ih ⊢;rw[wH];omega
theorem K4 {sp:Str}(hs:cX.strOk sp=Â):∀{ys:List Str},(∀y∈ys,cX.strOk y=Â)->cX.strOk (Str.join sp ys)=Â
 |[],_=>by unfold Str.join;decide +kernel
 |[y],h=>by unfold Str.join;exact h y cg
 |y::z::ys,h=>by have ih:=K4 hs (ys:=z::ys) λx hx=>h x (ck _ hx);unfold Str.join;exact HP (HP (h y cg) hs) ih
theorem Gu {sp:Str}{ys:List Str}{b:Nat}(h:∀y∈ys,y.length<=b)(hb:ys.length*b+ys.length*sp.length<=16777216):m7 (.str sp) (cx ys)=U (.str (Str.join sp ys)):=by show(rJ (ys.map .str)).bind _=_;rw[Nu];show(if _ then _ else _)=_;rw[if_pos (by have:=Gs h;omega)]
def eX (c:Nat):Str:=⟨#[c]⟩
theorem CS:(" ":Str)=eX 32:=by decide +kernel
theorem ı:("\n":Str)=eX 10:=by decide +kernel
def oV (c:Nat)(w:Str):Prop:=c∉w.cps.toList
theorem PU {c:Nat}:∀{a b X Ϛ:List Nat},c∉a->c∉b->a++c::X=b++c::Ϛ->a=b/\X=Ϛ
 |[],[],X,Ϛ,_,_,h=>by simpa using h
 |[],y::b,X,Ϛ,_,hb,h=>by
  have:c=y:=by simpa using(List.cons.inj h).1
  exact absurd (by rw[this];exact cg) hb
 |x::a,[],X,Ϛ,ha,_,h=>by
  have:x=c:=by simpa using(List.cons.inj h).1
  exact absurd (by rw[this];exact cg) ha
 |x::a,y::b,X,Ϛ,ha,hb,h=>by obtain⟨e,h2⟩:=List.cons.inj h;subst e;obtain⟨e1,e2⟩:=PU (λz=>ha (ck _ z)) (λz=>hb (ck _ z)) h2;exact⟨by rw[e1],e2⟩
theorem wp {x y:Str}(h:x.cps.toList=y.cps.toList):x=y:=by obtain⟨a⟩:=x;obtain⟨b⟩:=y;exact congrArg Str.mk (Array.toList_inj.mp h)
theorem yp (x y:Str):(x++y).cps.toList=x.cps.toList++y.cps.toList:=by show(x.cps++y.cps).toList=_;simp
theorem join_list (c:Nat)(a b:Str)(r:List Str):(Str.join (eX c) (a::b::r)).cps.toList=a.cps.toList++c::(Str.join (eX c) (b::r)).cps.toList:=by rw[show Str.join (eX c) (a::b::r)=a++eX c++Str.join (eX c) (b::r)from rfl,yp,yp];simp[eX]
theorem Oc {c:Nat}:∀{ws us:List Str},ws≠[]->us≠[]->(∀w∈ws,oV c w)->(∀w∈us,oV c w)->Str.join (eX c) ws=Str.join (eX c) us->ws=us
 |[],_,h,_,_,_,_=>absurd rfl h
 |_::_,[],_,h,_,_,_=>absurd rfl h
 |[a],[b],_,_,_,_,h=>by have h:a=b:=h;rw[h]
 |[a],b::b'::r,_,_,ha,_,h=>by have e:=congrArg (λx:Str=>x.cps.toList) h;rw[join_list]at e;have e:a.cps.toList=_:=e;exact absurd (by rw[e];simp) (ha a cg)
 |a::a'::r,[b],_,_,_,hb,h=>by have e:=congrArg (λx:Str=>x.cps.toList) h;rw[join_list]at e;have e:_=b.cps.toList:=e;exact absurd (by rw[←e];simp) (hb b cg)
 |a::a'::r,b::b'::r',_,_,ha,hb,h=>by have e:=congrArg (λx:Str=>x.cps.toList) h;rw[join_list,join_list]at e;obtain⟨e1,e2⟩:=PU (ha a cg) (hb b cg) e;have:=Oc (ws:=a'::r) (us:=b'::r') (by simp) (by simp) (λw hw=>ha w (ck _ hw)) (λw hw=>hb w (ck _ hw)) (wp e2);rw[wp e1,this]
theorem Xr (x y:Str):Txt.split x y≠[]:=by
 unfold Txt.split;split
 ·simp
 ·split
  ·simp
  ·intro h;have:=congrArg mU h;rw[PyProof.Rows.len_partsBetween]at this;simp at this
variable {ws:List Str}
theorem UN {c:Nat}(h:ws≠[])(hf:∀w∈ws,oV c w):Txt.split (Str.join (eX c) ws) (eX c)=ws :=
 Oc (Xr _ _) h (StrLaws.split_free _ c) hf (StrLaws.join_split _ _)
theorem HA {c:Nat}{b:Nat}(h:ws≠[])(hf:∀w∈ws,oV c w)(hb:∀w∈ws,w.length<=b)(hz:ws.length*b+ws.length<=16777216):ko (.str (Str.join (eX c) ws)) (.str (eX c))=U (cx ws):=by
 show(if _ then _ else _)=_;rw[UN h hf,if_pos]
 ·rfl
 ·refine⟨rfl,?_,by omega⟩;have h1:=Hj (eX c) ws;have h2:=Gs hb;have:(eX c).length=1:=rfl;rw[this,Nat.mul_one]at h1;omega
theorem Za {c:Nat}{x y:Str}(hx:oV c x)(hy:oV c y):oV c (x++y):=by
 unfold oV;rw[yp];intro z;rcases cW.mp z with z|z
 ·exact hx z
 ·exact hy z
theorem KH {c d:Nat}(hd:d≠c):∀{ws:List Str},(∀w∈ws,oV c w)->oV c (Str.join (eX d) ws)
 |[],_=>by unfold oV;show c∉([]:List Nat);simp
 |[a],h=>h a cg
 |a::b::r,h=>by
  have ih:=KH hd (ws:=b::r) λw hw=>h w (ck _ hw);unfold oV at *;rw[join_list];intro z;rcases cW.mp z with z|z
  ·exact h a cg z
  ·rcases cu.mp z with z|z
   ·exact hd z.symm
   ·exact ih z
theorem HZ (a c:Nat):zH (.str (eX a)) (.str (eX c))=U (.bl (decide (a<=c))):=by
 show U (D.bl (!(decide ([c] < [a]))))=_;have:decide (([c]:List Nat) < [a])=decide (c<a):=by
  by_cases h:c<a
  ·rw[decide_eq_true h];exact decide_eq_true (show([c]:List Nat) < [a]from List.Lex.rel h)
  ·rw[decide_eq_false h,decide_eq_false];intro z;cases z with
   |rel q=>exact h q
   |cons q=>cases q
 rw[this];by_cases h:c<a
 ·rw[decide_eq_true h,decide_eq_false (by omega)];rfl
 ·rw[decide_eq_false h,decide_eq_true (by omega)];rfl
theorem Od (c:Nat):kZ [.str (eX c)]=U (.bl (decide (97<=c/\c<=122))):=by
 have h1:=HZ 97 c;have h2:=HZ c 122;have e1:("a":Str)=eX 97:=by decide +kernel
 have e2:("z":Str)=eX 122:=by decide +kernel
 unfold kZ;rw[e1,e2];by_cases k1:97<=c
 ·by_cases k2:c<=122
  ·rw[decide_eq_true ⟨k1,k2⟩];rw[decide_eq_true k1]at h1;rw[decide_eq_true k2]at h2;clear e1 e2 k1 k2;walk_at "mid"
  ·rw[decide_eq_false λz=>k2 z.2];rw[decide_eq_true k1]at h1;rw[decide_eq_false k2]at h2;clear e1 e2 k1 k2;walk_at "mid"
 ·rw[decide_eq_false λz=>k1 z.1];rw[decide_eq_false k1]at h1;clear e1 e2 k1 h2;walk_at "mid"
theorem Oe (c:Nat):kY [.str (eX c)]=U (.bl (decide (48<=c/\c<=57))):=by
 have h1:=HZ 48 c;have h2:=HZ c 57;have e1:("0":Str)=eX 48:=by decide +kernel
 have e2:("9":Str)=eX 57:=by decide +kernel
 unfold kY;rw[e1,e2];by_cases k1:48<=c
 ·by_cases k2:c<=57
  ·rw[decide_eq_true ⟨k1,k2⟩];rw[decide_eq_true k1]at h1;rw[decide_eq_true k2]at h2;clear e1 e2 k1 k2;walk_at "mid"
  ·rw[decide_eq_false λz=>k2 z.2];rw[decide_eq_true k1]at h1;rw[decide_eq_false k2]at h2;clear e1 e2 k1 k2;walk_at "mid"
 ·rw[decide_eq_false λz=>k1 z.1];rw[decide_eq_false k1]at h1;clear e1 e2 k1 h2;walk_at "mid"
def Mi (c:Nat):Bool:=decide (97<=c/\c<=122)
def QS (c:Nat):Bool:=decide (48<=c/\c<=57)
theorem yy (w:Str):w.cps.toList.length=w.length:=fw
theorem KJ {x:Str}(h:x.length<=16777216):ee [.str x]=sI (x.length:Int):=by show(if x.length<=16777216 then U (D.int x.length)else L)=_;rw[if_pos h]
theorem uP {w:Str}{c:Nat}{r:List Nat}(h:w.cps.toList=c::r)(hl:w.length<=100):dX (.str w) (.int 0)=U (.str (eX c)):=by show(if w.length<=16777216 then(atI w.cps.toList 0).bind λc=>U (D.str ⟨#[c]⟩)else L)=_;rw[if_pos (by omega),h,show atI (c::r) 0=U c from yc (xs:=c::r) (j:=0) rfl];rfl
def AQ (w:Str):Bool:=match w.cps.toList with
 |[]=>Ã
 |c::r=>decide (r.length<8)&&Mi c&&r.all λc=>Mi c || QS c
theorem V6 {w:Str}(h:AQ w=Â):lM [.str w]=U (.bl Â):=by
 unfold AQ at h;cases hw:w.cps.toList with
 |nil=>rw[hw]at h;cases h
 |cons c r=>
  rw[hw]at h;dsimp only at h;rw[cY,cY]at h;obtain⟨⟨h1,h2⟩,h3⟩:=h;have h1:r.length<8:=of_decide_eq_true h1;have hl:=yy w;rw[hw,cB]at hl;have l1:=KJ (x:=w) (by omega);have x0:=uP hw (by omega);have t0:=Od c;rw[show decide (97<=c/\c<=122)=Â from h2]at t0;have i1:sM "str" (.str w)=U (.bl Â):=rfl;have a1:eN lm (Ä mD Å) [U (.str w)]=U (.bl Â):=by
   have:mD [U (.str w)]=sL ((c::r).map λ_=>D.bl Â):=by
    refine zt (λc=>D.str (eX c)) (λ_=>D.bl Â) (c::r) ?_ (by simp;omega) λx hx=>⟨_,rfl,?_⟩
    ·show U (sX w)=_;unfold sX;rw[hw];rfl
    ·have k1:=Od x;have k2:=Oe x;by_cases q:97<=x/\x<=122
     ·rw[decide_eq_true q]at k1;clear k2 q;walk_at "mid"
     ·rw[decide_eq_false q]at k1;have:48<=x/\x<=57:=by
       rcases cu.mp hx with rfl|hx
       ·exact absurd (of_decide_eq_true h2) q
       ·have:=dE.mp h3 x hx;rw[n9]at this;rcases this with z|z
        ·exact absurd (of_decide_eq_true z) q
        ·exact of_decide_eq_true z
      rw[decide_eq_true this]at k2;clear q this;walk_at "mid"
   unfold eN Ä;rw[this];show lm [.lst ((c::r).map λ_=>D.bl Â)]=_;rw[all_map];simp
  have c1:¬(w.length:Int)<1:=by omega
  have c2:¬(w.length:Int) > 8:=by omega
  generalize (w.length:Int)=wl at *;unfold lM;generalize eN lm (Ä mD Å)=AA at *;clear h1 h2 h3 hl hw;walk_at "mid"
theorem xp (n:Nat):(dn (n:Int)).cps.toList=(Nat.toDigits 10 n).map Char.toNat:=by unfold dn;rw[Str.ofString_eq_toList];have:(toString (n:Int):String)=xS n:=rfl;rw[this];unfold xS;rw[String.toList_ofList]
theorem uu {n:Nat}{x:Nat}(h:x∈(dn (n:Int)).cps.toList):48<=x/\x<=57:=by rw[xp]at h;obtain⟨c,hc,rfl⟩:=cO.mp h;have:=tO (b:=10) (by decide) (by decide) hc;unfold Char.isDigit at this;simp at this;exact⟨this.1,this.2⟩
theorem Gf {c n:Nat}(h:c<48):oV c (dn (n:Int)):=λz=>by have:=uu z;omega
theorem Xt:∀(n:Nat),1<=n->∃c r,Nat.toDigits 10 n=c::r/\c≠'0':=by
 intro n;induction n using tq with
 |_ n ih=>
  intro h;by_cases GO:n<10
  ·rw[Nat.toDigits_of_lt_base GO];have:∀m,m<10->1<=m->m.digitChar≠'0':=by decide
   exact⟨_,_,rfl,this n GO h⟩
  ·rw[Nat.toDigits_of_base_le (by decide) (by omega)];obtain⟨c,r,e,hc⟩:=ih (n/10) (by omega) (by omega);rw[e];exact⟨c,_,rfl,hc⟩
theorem xt {n:Nat}(h:n<10000000000):(dn (n:Int)).length<=10:=by rw[←yy,xp,cA];exact(iV (by decide) (by decide)).mpr (by omega)
theorem Xu:dn ((0:Nat):Int) = "0":=by decide +kernel
theorem KM {n:Nat}(h:n<10000000000):gZ [.str (dn (n:Int))]=U (.bl Â):=by
 have hl:=xt h;have l1:=KJ (x:=dn (n:Int)) (by omega);have zA:1<=(dn (n:Int)).length:=by rw[←yy,xp,cA];exact jZ
 have a1:eN lm (Ä jF Å) [U (.str (dn (n:Int)))]=U (.bl Â):=by
  have:jF [U (.str (dn (n:Int)))]=sL ((dn (n:Int)).cps.toList.map λ_=>D.bl Â):=by refine zt (λc=>D.str (eX c)) (λ_=>D.bl Â) _ rfl (by rw[yy];omega) λx hx=>⟨_,rfl,?_⟩;have k2:=Oe x;rw[decide_eq_true (uu hx)]at k2;clear hx l1;walk_at "mid"
  unfold eN Ä;rw[this];show lm [.lst ((dn (n:Int)).cps.toList.map λ_=>D.bl Â)]=_;rw[all_map];simp
 have c1:¬((dn (n:Int)).length:Int)<1:=by omega
 have c2:¬((dn (n:Int)).length:Int) > 15:=by omega
 by_cases h0:n=0
 ·subst h0;rw[Xu]at *;have e1:ga Ã (.str "0") (.str "0")=U (.bl Â):=(xh (zw _) (zw _)).trans (by simp);generalize (("0":Str).length:Int)=wl at *;unfold gZ;generalize eN lm (Ä jF Å)=AA at *;clear hl zA h;walk_at "mid"
 ·obtain⟨c,r,e,hc⟩:=Xt n (by omega);have hw:(dn (n:Int)).cps.toList=c.toNat::r.map Char.toNat:=by rw[xp,e];rfl
  have x0:=uP hw (by omega);have ne:¬eX c.toNat = "0":=λz=>by
   have z:eX c.toNat=eX 48:=z.trans (by decide +kernel);have z:c.toNat=48:=by simpa[eX]using z
   exact hc (Char.ext (UInt32.toNat_inj.mp z))
  have e2:ga Â (.str (eX c.toNat)) (.str "0")=U (.bl Â):=by
   have hk:cX.strOk (eX c.toNat)=Â:=by have:=uu (n:=n) (x:=c.toNat) (by rw[hw];exact cg);unfold cX.strOk eX;simp;omega
   rw[xh hk (zw _),decide_eq_false ne];rfl
  obtain⟨bb,e1⟩:∃bb,ga Ã (.str (dn (n:Int))) (.str "0")=U (.bl bb):=⟨_,xh (DG _) (zw _)⟩;generalize ((dn (n:Int)).length:Int)=wl at *;generalize dn (n:Int)=w at *;unfold gZ;generalize eN lm (Ä jF Å)=AA at *;clear hl zA h h0 e hc hw ne;cases bb
  ·walk_at "mid"
  ·walk_at "mid"
theorem Ca {n:Nat}(h:n<10000000000):mR [.str (dn (n:Int))]=sI (n:Int):=by show(if(dn (n:Int)).length<=640 then(PySem.intText? (dn (n:Int))).bind λi=>U (D.int i)else L)=_;have:=xt h;rw[if_pos (by omega),show PySem.intText? (dn (n:Int))=U (n:Int)from PySem.W.KIN.num_reads (by omega) (by omega)];rfl
theorem NF (hl:ws.length<=1000)(h:∀w∈ws,gZ [.str w]=U (.bl Â)):kN [cx ws]=U (.bl Â):=by
 have a1:eN lm (Ä jL Å) [U (cx ws)]=U (.bl Â):=by
  have:jL [U (cx ws)]=sL (ws.map λ_=>D.bl Â):=by refine zt D.str (λ_=>D.bl Â) ws rfl (by omega) λw hw=>⟨_,rfl,?_⟩;have:=h w hw;clear h;walk_at "mid"
  unfold eN Ä;rw[this];show lm [.lst (ws.map λ_=>D.bl Â)]=_;rw[all_map];simp
 generalize cx ws=Ϝ at *;unfold kN;generalize eN lm (Ä jL Å)=AA at *;clear h hl;walk_at "mid"
def hG:Kd->Str
 |.ride=>"ride" |.wait=>"wait" |.back=>"back"
theorem HR (k:Kd):cX.strOk (hG k)=Â:=by cases k<;>exact zw _
theorem HS (neg:Bool)(k j:Kd):ga neg (.str (hG k)) (.str (hG j))=U (.bl (if neg then !decide (k=j)else decide (k=j))):=by
 rw[xh (HR k) (HR j)];have:decide (hG k=hG j)=decide (k=j):=by cases k<;>cases j<;>decide
 rw[this]
theorem Xv (k:Kd):ga Ã (.str (hG k)) (.str "line")=U (.bl Ã):=by
 rw[xh (HR k) (zw _)];have:¬hG k = "line":=by cases k<;>decide +kernel
 rw[decide_eq_false this];rfl
structure oB (na:List Str):Prop where
 nd:na.Nodup
 ok:∀x∈na,AQ x=Â
 le:na.length<=40
theorem uv {w:Str}(h:AQ w=Â):1<=w.length/\w.length<=8:=by
 unfold AQ at h;rw[←yy];cases hw:w.cps.toList with
 |nil=>rw[hw]at h;cases h
 |cons c r=>rw[hw]at h;dsimp only at h;rw[cY,cY]at h;have:=of_decide_eq_true h.1.1;rw[cB];omega
theorem PV {w:Str}(h:AQ w=Â){x:Nat}(hx:x∈w.cps.toList):48<=x/\x<=122:=by
 unfold AQ at h;cases hw:w.cps.toList with
 |nil=>rw[hw]at hx;cases hx
 |cons c r=>
  rw[hw]at h hx;dsimp only at h;rw[cY,cY]at h;rcases cu.mp hx with rfl|hx
  ·have:=of_decide_eq_true (p:=97<=x/\x<=122) h.1.2;omega
  ·have:=dE.mp h.2 x hx;rw[n9]at this;rcases this with z|z
   ·have:=of_decide_eq_true (p:=97<=x/\x<=122) z;omega
   ·have:=of_decide_eq_true (p:=48<=x/\x<=57) z;omega
theorem HB {w:Str}(h:AQ w=Â){c:Nat}(hc:c<48):oV c w:=λz=>by have:=PV h z;omega
theorem En {w:Str}(h:AQ w=Â):cX.strOk w=Â:=by unfold cX.strOk;rw[←qX,dE];intro x hx;have:=PV h hx;rw[decide_eq_true_iff];omega
def dr (na:List Str)(i:Nat):Str:=na.getD i ""
variable {na:List Str}
theorem Hk {i:Nat}(h:i<na.length):dr na i∈na:=by unfold dr;rw[cN,dh h];exact gW h
theorem Qe {i:Nat}(h:i<na.length):dX (cx na) (.int (i:Int))=U (.str (dr na i)):=yc (by unfold dr;rw[dm,dh h,cN,dh h];rfl)
theorem O0 (ws:List Str):(ws.map D.str).all D.sc=Â:=by rw[List.all_map];exact dE.mpr λx _=>rfl
theorem Of (nd:na.Nodup){i:Nat}(h:i<na.length):AK (cx na) (.str (dr na i))=sI (i:Int):=by
 have hf:(na.map D.str).findIdx? (λy=>Ct y (.str (dr na i)))=U i:=by
  rw[List.findIdx?_map];have e:dr na i=na[i]:=by unfold dr;rw[cN,dh h];rfl
  rw[e,qE];refine⟨h,?_,λj hj=>?_⟩
  ·show(na[i]==na[i])=Â;exact beq_self_eq_true _
  ·have Rv:j<na.length:=by omega
   have:na[j]≠na[i]:=λz=>by have:=(nB (xs:=na) (h₀:=Rv) (h₁:=h) nd).mp z;omega
   show¬(na[j]==na[i])=Â;rw[beq_iff_eq];exact this
 show(if _ then _ else _)=_;rw[if_pos ⟨rfl,O0 na⟩,hf];rfl
theorem Zb {x:Str}(h:x∈na):ð Â (.str x) (cx na)=U (.bl Ã):=by
 have hi:yB (.str x) (na.map D.str)=Â:=by unfold yB;rw[List.any_map,ny];exact⟨x,h,beq_self_eq_true x⟩
 show(if _ then _ else _)=_;rw[if_pos ⟨rfl,O0 na⟩,hi];rfl
theorem Xw {told:List Str}(h:∀x∈told,x∈na):gb [cx told,cx na]=U .non:=by
 obtain⟨ρ',h1,x2,rfl⟩:=ub (g:=gV 2) (b:=hJ) (S:=told.map D.str) (Z:=[U (cx told),U (cx na),L])
  (λ_ Z=>∃x2:Option D,Z=[U (cx told),U (cx na),x2]) ⟨L,rfl⟩ (by rintro pre d post Z e ⟨x2,rfl⟩;have hx:=HJ e;rw[dm]at hx;obtain⟨x,Fl,rfl⟩:=ka.mp hx;have n1:=Zb (h x (fF.mpr ⟨_,Fl⟩));refine⟨_,_,rfl,.inl ?_,U (.str x),rfl⟩;generalize cx told=T,cx na=N at *;unfold hJ;clear h hx Fl e;walk_at "mid")
 have ls:Ý (C 0) [U (cx told),U (cx na),L]=U (told.map D.str):=rfl;generalize cx told=T,cx na=N at *;unfold gb Ù Ñ;show((Ø (Ý (C 0)) (gV 2) hJ) [U T,U N,L]).bind _=_;unfold Ø;rw[ls,dN,h1];rfl
structure Wr (n:Nat)(a:gx):Prop where
 s:a.s<n
 g:a.g<n
 t0:0<=a.t
 t1:a.t<=1000000000
 b:a.b<=4
 r:a.c=.ride->a.b=0
def pS (na:List Str)(a:gx):List Str:=[hG a.c,dr na a.s,dr na a.g,dn a.t]++(if a.c=.ride then[]else[dn (a.b:Int)])
structure Ar (na ws:List Str)(J:List gx):Prop where
 ne:ws≠[]
 f32:∀w∈ws,oV 32 w
 f10:∀w∈ws,oV 10 w
 wl:∀w∈ws,w.length<=12
 len:ws.length<=40
 form:fI [cx ws]=U (.bl Â)
 told:∃told,gR [cx ws]=U (cx told)/\∀x∈told,x∈na
 arr:fT [cx ws,cx na]=sL (J.map c9)
theorem Zc (k:Kd){c:Nat}(hc:c<48):oV c (hG k):=λz=>by
 have:∀x∈(hG k).cps.toList,48<=x:=by cases k<;>decide +kernel
 have:=this c z;omega
theorem Zd (k:Kd):(hG k).length=4:=by cases k<;>decide +kernel
theorem Og {a:gx}(hn:oB na)(h:Wr na.length a){w:Str}(hw:w∈pS na a):(∀c,c<48->oV c w)/\w.length<=12/\cX.strOk w=Â:=by
 obtain⟨t,ht⟩:∃t:Nat,a.t=(t:Int):=⟨a.t.toNat,by have:=h.t0;omega⟩;have t1:=h.t1;have hb:=h.b;have n1:=hn.ok _ (Hk h.s);have n2:=hn.ok _ (Hk h.g);have n1l:=uv n1;have n2l:=uv n2;unfold pS at hw;rw[ht]at hw t1;have e4:=xt (n:=t) (by omega);have e5:=xt (n:=a.b) (by omega);rcases cW.mp hw with hw|hw
 ·simp only[cu,dO,or_false]at hw;rcases hw with rfl|rfl|rfl|rfl
  ·exact⟨λc hc=>Zc _ hc,by rw[Zd];omega,HR _⟩
  ·exact⟨λc hc=>HB n1 hc,by omega,En n1⟩
  ·exact⟨λc hc=>HB n2 hc,by omega,En n2⟩
  ·exact⟨λc hc=>Gf hc,by omega,DG _⟩
 ·by_cases hc:a.c=.ride
  ·rw[if_pos hc]at hw;cases hw
  ·rw[if_neg hc,cG]at hw;subst hw;exact⟨λc hc=>Gf hc,by omega,DG _⟩
theorem ŧ {a:gx}(hn:oB na)(h:Wr na.length a):Ar na (pS na a) [a]:=by
 obtain⟨t,ht⟩:∃t:Nat,a.t=(t:Int):=⟨a.t.toNat,by have:=h.t0;omega⟩;have t1:=h.t1;have hb:=h.b;have k1:=KM (n:=t) (by omega);have k2:=KM (n:=a.b) (by omega);have v1:=Ca (n:=t) (by omega);have v2:=Ca (n:=a.b) (by omega);have d1:=Of hn.nd h.s;have d2:=Of hn.nd h.g;have q1:=HS Ã a.c .ride;have q2:=HS Ã a.c .wait;have q3:=HS Ã a.c .back;have q4:=Xv a.c;have wr:hG .ride = "ride":=rfl;have ww:hG .wait = "wait":=rfl;have wb:hG .back = "back":=rfl;rw[if_neg (by decide),wr]at q1;rw[if_neg (by decide),ww]at q2;rw[if_neg (by decide),wb]at q3;have m1:=Hk h.s;have m2:=Hk h.g;have mem:=λw hw=>Og (w:=w) hn h hw;have r1:∀s g t:Int,jB 1 [.int s,.int g,.int t]=U (.obj 1 ["start","goal","time","behind"] [.int s,.int g,.int t,.int 0]):=λ_ _ _=>rfl;have r2:∀s g t b:Int,jC 2 [.int s,.int g,.int t,.int b]=U (.obj 2 ["start","goal","time","behind"] [.int s,.int g,.int t,.int b]):=λ_ _ _ _=>rfl;have r3:∀s g t b:Int,jA 3 [.int s,.int g,.int t,.int b]=U (.obj 3 ["start","goal","time","behind"] [.int s,.int g,.int t,.int b]):=λ_ _ _ _=>rfl;have pN:∀pc:List D,á (D.str (hG a.c)::D.str (dr na a.s)::D.str (dr na a.g)::pc) (U 1) (U 3)=[D.str (dr na a.s),D.str (dr na a.g)]:=λrest=>by rw[show(1:Int)=((1:Nat):Int)from rfl,show(3:Int)=((3:Nat):Int)from rfl,WY];rfl
 obtain⟨c,s,g,tt,b⟩:=a;dsimp only at *;subst ht;cases c with
 |ride=>
  have xE:=h.r rfl;dsimp only at xE;subst xE;have ew:pS na ⟨.ride,s,g,(t:Int),0⟩=[hG .ride,dr na s,dr na g,dn (t:Int)]:=rfl;rw[ew]at mem ⊢;have ln:ee [cx [hG .ride,dr na s,dr na g,dn (t:Int)]]=sI 4:=rfl;have x0:dX (cx [hG .ride,dr na s,dr na g,dn (t:Int)]) (.int 0)=U (.str (hG .ride)):=rfl;have x1:dX (cx [hG .ride,dr na s,dr na g,dn (t:Int)]) (.int 1)=U (.str (dr na s)):=rfl;have x2:dX (cx [hG .ride,dr na s,dr na g,dn (t:Int)]) (.int 2)=U (.str (dr na g)):=rfl;have x3:dX (cx [hG .ride,dr na s,dr na g,dn (t:Int)]) (.int 3)=U (.str (dn (t:Int))):=rfl;have sl:d7 (cx [hG .ride,dr na s,dr na g,dn (t:Int)]) (U 1) (U 3)=U (cx [dr na s,dr na g]):=by show U (D.lst (á _ _ _))=_;exact congrArg U (congrArg D.lst (pN _))
  rw[decide_eq_true rfl]at q1;refine⟨by simp,λw hw=>(mem w hw).1 32 (by decide),λw hw=>(mem w hw).1 10 (by decide),λw hw=>(mem w hw).2.1,by simp,?_,⟨[dr na s,dr na g],?_,?_⟩,?_⟩
  ·generalize cx [hG .ride,dr na s,dr na g,dn (t:Int)]=Ϝ at *;unfold fI;clear mem pN h hn m1 m2 t1 hb wr ww wb q2 q3 q4 sl x1 x2;walk_at "mid"
  ·generalize cx [hG .ride,dr na s,dr na g,dn (t:Int)]=Ϝ at *;generalize cx [dr na s,dr na g]=L2 at *;unfold gR;clear mem pN h hn m1 m2 t1 hb wr ww wb q2 q3 x1 x2 x3 k1 k2 v1 v2 d1 d2 r1 r2 r3;walk_at "mid"
  ·intro x hx;simp only[cu,dO,or_false]at hx;rcases hx with rfl|rfl
   ·exact m1
   ·exact m2
  ·have ar:fO [cx [hG .ride,dr na s,dr na g,dn (t:Int)],cx na]=U (c9 ⟨.ride,s,g,(t:Int),0⟩):=by show _=U (D.obj 1 ["start","goal","time","behind"] [.int (s:Int),.int (g:Int),.int (t:Int),.int 0]);generalize cx [hG .ride,dr na s,dr na g,dn (t:Int)]=Ϝ,cx na=N at *;unfold fO;clear mem pN h hn m1 m2 t1 hb wr ww wb q2 q3 q4 sl k1 k2;walk_at "mid"
   show _=U (D.lst [c9 ⟨.ride,s,g,(t:Int),0⟩]);generalize c9 ⟨.ride,s,g,(t:Int),0⟩=ea,cx [hG .ride,dr na s,dr na g,dn (t:Int)]=Ϝ,cx na=N at *;unfold fT;clear mem pN h hn m1 m2 t1 hb wr ww wb q1 q2 q3 sl k1 k2 v1 v2 d1 d2 r1 r2 r3 x1 x2 x3;walk_at "mid"
 |wait=>
  have ew:pS na ⟨.wait,s,g,(t:Int),b⟩=[hG .wait,dr na s,dr na g,dn (t:Int),dn (b:Int)]:=rfl;rw[ew]at mem ⊢;have ln:ee [cx [hG .wait,dr na s,dr na g,dn (t:Int),dn (b:Int)]]=sI 5:=rfl;have x0:dX (cx [hG .wait,dr na s,dr na g,dn (t:Int),dn (b:Int)]) (.int 0)=U (.str (hG .wait)):=rfl;have x1:dX (cx [hG .wait,dr na s,dr na g,dn (t:Int),dn (b:Int)]) (.int 1)=U (.str (dr na s)):=rfl;have x2:dX (cx [hG .wait,dr na s,dr na g,dn (t:Int),dn (b:Int)]) (.int 2)=U (.str (dr na g)):=rfl;have x3:dX (cx [hG .wait,dr na s,dr na g,dn (t:Int),dn (b:Int)]) (.int 3)=U (.str (dn (t:Int))):=rfl;have x4:dX (cx [hG .wait,dr na s,dr na g,dn (t:Int),dn (b:Int)]) (.int 4)=U (.str (dn (b:Int))):=rfl;have sl:d7 (cx [hG .wait,dr na s,dr na g,dn (t:Int),dn (b:Int)]) (U 1) (U 3)=U (cx [dr na s,dr na g]):=by show U (D.lst (á _ _ _))=_;exact congrArg U (congrArg D.lst (pN _))
  have s3:d7 (cx [hG .wait,dr na s,dr na g,dn (t:Int),dn (b:Int)]) (U 3) L=U (cx [dn (t:Int),dn (b:Int)]):=by show U (D.lst (á _ (U ((3:Nat):Int)) L))=_;rw[xo];rfl
  have nn:=NF (ws:=[dn (t:Int),dn (b:Int)]) (by simp) λw hw=>by
   simp only[cu,dO,or_false]at hw;rcases hw with rfl|rfl
   ·exact k1
   ·exact k2
  rw[decide_eq_false (by decide)]at q1;rw[decide_eq_true rfl]at q2;refine⟨by simp,λw hw=>(mem w hw).1 32 (by decide),λw hw=>(mem w hw).1 10 (by decide),λw hw=>(mem w hw).2.1,by simp,?_,⟨[dr na s,dr na g],?_,?_⟩,?_⟩
  ·generalize cx [hG .wait,dr na s,dr na g,dn (t:Int),dn (b:Int)]=Ϝ at *;generalize cx [dn (t:Int),dn (b:Int)]=L3 at *;unfold fI;clear mem pN h hn m1 m2 t1 hb wr ww wb q3 q4 sl x1 x2;walk_at "mid"
  ·generalize cx [hG .wait,dr na s,dr na g,dn (t:Int),dn (b:Int)]=Ϝ at *;generalize cx [dr na s,dr na g]=L2 at *;unfold gR;clear mem pN h hn m1 m2 t1 hb wr ww wb q2 q3 x1 x2 x3 k1 k2 v1 v2 d1 d2 r1 r2 r3 nn s3;walk_at "mid"
  ·intro x hx;simp only[cu,dO,or_false]at hx;rcases hx with rfl|rfl
   ·exact m1
   ·exact m2
  ·have ar:fO [cx [hG .wait,dr na s,dr na g,dn (t:Int),dn (b:Int)],cx na]=U (c9 ⟨.wait,s,g,(t:Int),b⟩):=by show _=U (D.obj 2 ["start","goal","time","behind"] [.int (s:Int),.int (g:Int),.int (t:Int),.int (b:Int)]);generalize cx [hG .wait,dr na s,dr na g,dn (t:Int),dn (b:Int)]=Ϝ,cx na=N at *;unfold fO;clear mem pN h hn m1 m2 t1 hb wr ww wb q3 q4 sl k1 k2 nn s3;walk_at "mid"
   show _=U (D.lst [c9 ⟨.wait,s,g,(t:Int),b⟩]);generalize c9 ⟨.wait,s,g,(t:Int),b⟩=ea,cx [hG .wait,dr na s,dr na g,dn (t:Int),dn (b:Int)]=Ϝ,cx na=N at *;unfold fT;clear mem pN h hn m1 m2 t1 hb wr ww wb q1 q2 q3 sl k1 k2 v1 v2 d1 d2 r1 r2 r3 x1 x2 x3 nn s3;walk_at "mid"
 |back=>
  have ew:pS na ⟨.back,s,g,(t:Int),b⟩=[hG .back,dr na s,dr na g,dn (t:Int),dn (b:Int)]:=rfl;rw[ew]at mem ⊢;have ln:ee [cx [hG .back,dr na s,dr na g,dn (t:Int),dn (b:Int)]]=sI 5:=rfl;have x0:dX (cx [hG .back,dr na s,dr na g,dn (t:Int),dn (b:Int)]) (.int 0)=U (.str (hG .back)):=rfl;have x1:dX (cx [hG .back,dr na s,dr na g,dn (t:Int),dn (b:Int)]) (.int 1)=U (.str (dr na s)):=rfl;have x2:dX (cx [hG .back,dr na s,dr na g,dn (t:Int),dn (b:Int)]) (.int 2)=U (.str (dr na g)):=rfl;have x3:dX (cx [hG .back,dr na s,dr na g,dn (t:Int),dn (b:Int)]) (.int 3)=U (.str (dn (t:Int))):=rfl;have x4:dX (cx [hG .back,dr na s,dr na g,dn (t:Int),dn (b:Int)]) (.int 4)=U (.str (dn (b:Int))):=rfl;have sl:d7 (cx [hG .back,dr na s,dr na g,dn (t:Int),dn (b:Int)]) (U 1) (U 3)=U (cx [dr na s,dr na g]):=by show U (D.lst (á _ _ _))=_;exact congrArg U (congrArg D.lst (pN _))
  have s3:d7 (cx [hG .back,dr na s,dr na g,dn (t:Int),dn (b:Int)]) (U 3) L=U (cx [dn (t:Int),dn (b:Int)]):=by show U (D.lst (á _ (U ((3:Nat):Int)) L))=_;rw[xo];rfl
  have nn:=NF (ws:=[dn (t:Int),dn (b:Int)]) (by simp) λw hw=>by
   simp only[cu,dO,or_false]at hw;rcases hw with rfl|rfl
   ·exact k1
   ·exact k2
  rw[decide_eq_false (by decide)]at q1 q2;rw[decide_eq_true rfl]at q3;refine⟨by simp,λw hw=>(mem w hw).1 32 (by decide),λw hw=>(mem w hw).1 10 (by decide),λw hw=>(mem w hw).2.1,by simp,?_,⟨[dr na s,dr na g],?_,?_⟩,?_⟩
  ·generalize cx [hG .back,dr na s,dr na g,dn (t:Int),dn (b:Int)]=Ϝ at *;generalize cx [dn (t:Int),dn (b:Int)]=L3 at *;unfold fI;clear mem pN h hn m1 m2 t1 hb wr ww wb q4 sl x1 x2;walk_at "mid"
  ·generalize cx [hG .back,dr na s,dr na g,dn (t:Int),dn (b:Int)]=Ϝ at *;generalize cx [dr na s,dr na g]=L2 at *;unfold gR;clear mem pN h hn m1 m2 t1 hb wr ww wb q2 q3 x1 x2 x3 k1 k2 v1 v2 d1 d2 r1 r2 r3 nn s3;walk_at "mid"
  ·intro x hx;simp only[cu,dO,or_false]at hx;rcases hx with rfl|rfl
   ·exact m1
   ·exact m2
  ·have ar:fO [cx [hG .back,dr na s,dr na g,dn (t:Int),dn (b:Int)],cx na]=U (c9 ⟨.back,s,g,(t:Int),b⟩):=by show _=U (D.obj 3 ["start","goal","time","behind"] [.int (s:Int),.int (g:Int),.int (t:Int),.int (b:Int)]);generalize cx [hG .back,dr na s,dr na g,dn (t:Int),dn (b:Int)]=Ϝ,cx na=N at *;unfold fO;clear mem pN h hn m1 m2 t1 hb wr ww wb q3 q4 sl k1 k2 nn s3;walk_at "mid"
   show _=U (D.lst [c9 ⟨.back,s,g,(t:Int),b⟩]);generalize c9 ⟨.back,s,g,(t:Int),b⟩=ea,cx [hG .back,dr na s,dr na g,dn (t:Int),dn (b:Int)]=Ϝ,cx na=N at *;unfold fT;clear mem pN h hn m1 m2 t1 hb wr ww wb q1 q2 q3 sl k1 k2 v1 v2 d1 d2 r1 r2 r3 x1 x2 x3 nn s3;walk_at "mid"
def Bk (isn:Str->Bool):List Str->List Str->Bool
 |_,[]=>Â
 |Ð,x::xs=>isn x&&(!Ð.contains x)&&Bk isn (Ð++[x]) xs
theorem O1 (isn:Str->Bool):∀(xs Ð:List Str),Ð.Nodup->(Bk isn Ð xs=Â↔(∀x∈xs,isn x=Â)/\(Ð++xs).Nodup)
 |[],Ð,h=>by simp[Bk,h]
 |x::xs,Ð,h=>by
  unfold Bk;rw[cY,cY];by_cases hx:x∈Ð
  ·have c:(!Ð.contains x)=Ã:=by simp[hx]
   rw[c];constructor
   ·rintro⟨⟨_,z⟩,_⟩;cases z
   ·rintro⟨_,nd⟩;exact absurd rfl (((cT.mp nd).2.2 x hx x cg))
  ·have c:(!Ð.contains x)=Â:=by simp[hx]
   have nd:(Ð++[x]).Nodup:=cT.mpr ⟨h,by simp,λa ha b hb e=>by rw[cG]at hb;subst hb;subst e;exact hx ha⟩;rw[O1 isn xs (Ð++[x]) nd,c,dR,List.singleton_append];constructor
   ·rintro⟨⟨h1,_⟩,h2,h3⟩;exact⟨λy hy=>by
     rcases cu.mp hy with rfl|hy
     ·exact h1
     ·exact h2 y hy,h3⟩
   ·rintro⟨h1,h2⟩;exact⟨⟨h1 x cg,rfl⟩,λy hy=>h1 y (ck _ hy),h2⟩
def lY (Ð:List Str):D:=.dK (Ð.map Sum.inr) (Ð.map λ_=>D.bl Â)
theorem Oh (x:Str):∀Ð:List Str,(qT (Ð.map (Sum.inr:Str->i6)) (Ð.map λ_=>D.bl Â) (.inr x)).isSome=Ð.contains x
 |[]=>rfl
 |y::Ð=>by
  have ih:=Oh x Ð;unfold qT at *;rw[cL,cL,gw,eI];by_cases h:y=x
  ·subst h;simp
  ·have h1:¬(Sum.inr y:i6)=.inr x:=λz=>h (by cases z;rfl);rw[decide_eq_false h1];dsimp only;rw[ih];have h2:¬x=y:=λz=>h z.symm;simp[h2]
theorem Nc (isn:Str->Bool)(d:D):∀(xs Ð:List Str) (y2:Option D),(∀x∈xs,lM [.str x]=U (.bl (isn x)))->Ð.length+xs.length<=100 ->
  (Bk isn Ð xs=Â/\∃t1 t2,gX (gV 2) ej (xs.map .str) [U d,U (lY Ð),y2]=U (.nx [U d,t1,t2]))\/(Bk isn Ð xs=Ã/\gX (gV 2) ej (xs.map .str) [U d,U (lY Ð),y2]=U (.rt (.bl Ã)))
 |[],Ð,y2,_,_=>.inl ⟨rfl,_,_,rfl⟩
 |x::xs,Ð,y2,hn,hl=>by
  have h1:=hn x cg;have hg:(sE (lY Ð) (.str x)).bind (λr=>U (D.bl r.isSome))=U (.bl (Ð.contains x)):=by show U (D.bl (qT (Ð.map (Sum.inr:Str->i6)) (Ð.map λ_=>D.bl Â) (.inr x)).isSome)=_;rw[Oh]
  have Ai:gX (gV 2) ej ((x::xs).map .str) [U d,U (lY Ð),y2]=(ej [U d,U (lY Ð),U (.str x)]).bind λo=>match o with
    |.nx ρ'=>gX (gV 2) ej (xs.map .str) ρ'
    |.ct ρ'=>gX (gV 2) ej (xs.map .str) ρ'
    |.bk ρ'=>U (.nx ρ')
    |.rt d=>U (.rt d):=rfl
  rw[Ai];unfold Bk;cases hi:isn x with
  |false=>
   right;refine⟨rfl,?_⟩
   rw[hi]at h1;have:ej [U d,U (lY Ð),U (.str x)]=U (.rt (.bl Ã)):=by unfold ej;clear hg Ai hn hl hi;walk_at "mid"
   rw[this];rfl
  |true=>
   rw[hi]at h1;cases hc:Ð.contains x with
   |true=>
    right;refine⟨rfl,?_⟩
    rw[hc]at hg;have:ej [U d,U (lY Ð),U (.str x)]=U (.rt (.bl Ã)):=by generalize lY Ð=sd at *;unfold ej;clear Ai hn hl hi hc;walk_at "mid"
    rw[this];rfl
   |false=>
    rw[hc]at hg;have put:yG 1 (C 2) (eC (.bl Â)) [U d,U (lY Ð),U (.str x)]=U (.nx [U d,U (lY (Ð++[x])),U (.str x)]):=by
     have Rz:(Sum.inr x:i6)∉Ð.map (Sum.inr:Str->i6):=λz=>by obtain⟨y,hy,e⟩:=cO.mp z;cases e;rw[wB.mpr hy]at hc;cases hc
     have e:nS (Ð.map (Sum.inr:Str->i6)) (Ð.map λ_=>D.bl Â) (.inr x) (.bl Â)=((Ð++[x]).map Sum.inr,(Ð++[x]).map λ_=>D.bl Â):=by unfold nS;rw[if_neg (by simpa using Rz),fV,fV];rfl
     show(if(Ð.map (Sum.inr:Str->i6)).length<16777216 then U (ý.nx [U d,U (.dK (nS (Ð.map (Sum.inr:Str->i6)) (Ð.map λ_=>D.bl Â) (.inr x) (.bl Â)).1 (nS (Ð.map (Sum.inr:Str->i6)) (Ð.map λ_=>D.bl Â) (.inr x) (.bl Â)).2),U (.str x)])else L)=_;rw[if_pos (by rw[cA];omega),e];rfl
    have:ej [U d,U (lY Ð),U (.str x)]=U (.nx [U d,U (lY (Ð++[x])),U (.str x)]):=by generalize lY (Ð++[x])=sd2,lY Ð=sd at *;unfold ej;generalize yG 1 (C 2) (eC (.bl Â))=PD at *;clear Ai hn hl hi hc;walk_at "mid"
    rw[this];exact Nc isn d xs (Ð++[x]) _ (λy hy=>hn y (ck _ hy)) (by rw[cV];simp at hl ⊢;omega)
theorem UO (isn:Str->Bool)(xs:List Str)(hn:∀x∈xs,lM [.str x]=U (.bl (isn x)))(hl:xs.length<=100):gF [.lst (xs.map .str)]=U (.bl (decide (1<=xs.length/\xs.length<=40)&&Bk isn [] xs)):=by
 have i1:sM "list" (.lst (xs.map D.str))=U (.bl Â):=rfl;have l1:ee [.lst (xs.map D.str)]=sI (xs.length:Int):=(ya _).trans (by rw[cA]);by_cases h:1<=xs.length/\xs.length<=40
 ·have a1:¬(xs.length:Int)<1:=by omega
  have a2:¬(xs.length:Int) > 40:=by omega
  rw[decide_eq_true h,uG];have e0:lY []=.dK [] []:=rfl;rcases Nc isn (.lst (xs.map .str)) xs [] L hn (by simpa using hl)with⟨h1,t1,t2,h2⟩|⟨h1,h2⟩
  ·rw[h1];rw[e0]at h2;generalize xs.map D.str=v at *;unfold gF;simp -implicitDefEqProofs [Ù,Ñ,Ç,Ò,Ì,Ê,Ø,Ý,vx,É,C,eC,e1,e2,eN,Å,Ä,tb,qj,Þ,å,l1,i1,vv,vw,a1,a2,h2]
  ·rw[h1];rw[e0]at h2;generalize xs.map D.str=v at *;unfold gF;simp -implicitDefEqProofs [Ù,Ñ,Ç,Ò,Ì,Ê,Ø,Ý,vx,É,C,eC,e1,e2,eN,Å,Ä,tb,qj,Þ,å,l1,i1,vv,vw,a1,a2,h2]
 ·rw[decide_eq_false h,Bw];generalize xs.map D.str=v at *;have a1:(xs.length:Int)<1\/(¬(xs.length:Int)<1/\(xs.length:Int) > 40):=by omega
  unfold gF;rcases a1 with a1|⟨a1,a2⟩
  ·simp -implicitDefEqProofs [Ù,Ñ,Ç,Ò,Ì,Ê,Ø,Ý,vx,É,C,eC,e1,e2,eN,Å,Ä,tb,qj,Þ,å,l1,i1,vv,vw,a1]
  ·simp -implicitDefEqProofs [Ù,Ñ,Ç,Ò,Ì,Ê,Ø,Ý,vx,É,C,eC,e1,e2,eN,Å,Ä,tb,qj,Þ,å,l1,i1,vv,vw,a1,a2]
theorem JS (c:Nat):(eX c).length=1:=rfl
theorem Ep {t:Int}(h0:0<=t)(h1:t<=1000000000):iK [.int t]=U (.str (dn t)):=by
 show(if t.natAbs.log2<1920 then _ else _)=_;rw[if_pos];have:=Nat.log2_le_self t.natAbs;by_cases hz:t.natAbs=0
 ·rw[hz];decide
 ·rw[pj hz];refine qF (m:=2 ^ 30) (by omega) ?_;exact Nat.pow_lt_pow_right (by decide) (by decide)
theorem Ŧ {c:Nat}(hc:c<48):oV c ("goings":Str):=λz=>by
 have:∀x∈("goings":Str).cps.toList,48<=x:=by decide +kernel
 have:=this c z;omega
theorem PX (hn:oB na){w:Str}(hw:w∈(("goings":Str)::na)):(∀c,c<48->oV c w)/\w.length<=12/\cX.strOk w=Â:=by
 rcases cu.mp hw with rfl|hw
 ·exact⟨λc hc=>Ŧ hc,by decide,zw _⟩
 ·have:=uv (hn.ok w hw);exact⟨λc hc=>HB (hn.ok w hw) hc,by omega,En (hn.ok w hw)⟩
theorem NG {b:Nat}(h:∀w∈ws,w.length<=b)(c:Nat):(Str.join (eX c) ws).length<=ws.length*b+ws.length:=by have h1:=Hj (eX c) ws;have h2:=Gs h;have:(eX c).length=1:=rfl;rw[this,Nat.mul_one]at h1;omega
theorem Oi (hn:oB na)(h1:na≠[]):gF [cx na]=U (.bl Â):=by have ox:=hn.le;have hp:1<=na.length:=pJ.mpr h1;show gF [.lst (na.map .str)]=_;rw[UO (λ_=>Â) na (λx hx=>V6 (hn.ok x hx)) (by omega),decide_eq_true ⟨hp,ox⟩,uG,(O1 _ _ [] dz).mpr ⟨λ_ _=>rfl,by rw[A8];exact hn.nd⟩]
def E5 (na:List Str):Str:=Str.join (eX 32) ("goings"::na)
def dk (nt tb pt:D)(n:Int):D:=.obj 6 ["net","table","puts","answered"] [nt,tb,pt,.int n]
theorem xC:kM 6 []=U (dk .non .non (.lst []) 0):=by unfold kM;rfl
variable {nt pt tb:D}
section
variable {d:D}{n:Int}{r:L3.Env}{f:EF}
theorem O2 (h:f (U (dk nt tb pt n)::r)=U d):k7 0 [5,6] "net" f (U (dk nt tb pt n)::r)=U (.nx (U (dk d tb pt n)::r)):=by unfold k7;rw[h];rfl
theorem NH (h:f (U (dk nt tb pt n)::r)=U d):k7 0 [6] "table" f (U (dk nt tb pt n)::r)=U (.nx (U (dk nt d pt n)::r)):=by unfold k7;rw[h];rfl
theorem Xx (h:f (U (dk nt tb pt n)::r)=U d):k7 0 [6] "puts" f (U (dk nt tb pt n)::r)=U (.nx (U (dk nt tb d n)::r)):=by unfold k7;rw[h];rfl
theorem Ze:yF 0 [6] "answered" (eC (.int 1)) (U (dk nt tb pt n)::r)=U (.nx (U (dk nt tb pt (n+1))::r)):=rfl
end
theorem ť {bs:List gx}{n:Int}(ok:gY na.length bs)(hn:oB na)(h1:na≠[]):eQ [dk (cJ (na.map .str) J) tb pt n,.lst (bs.map c9)]=U (.tup [.str "ok",dk (cJ (na.map .str) bs) .non pt n]):=by have nt:=Qd (ns:=na.map .str) ok (by rw[cA]) (Oi hn h1);have f1:dH [4] "names" (cJ (na.map .str) J)=sL (na.map .str):=rfl;have f2:dH [5,6] "net" (dk (cJ (na.map .str) J) tb pt n)=U (cJ (na.map .str) J):=rfl;generalize cJ (na.map .str) J=n1,cJ (na.map .str) bs=n2 at *;generalize na.map D.str=N,bs.map c9=B at *;have p1:=O2 (f:=cl (fL 4) (Ä (e1 (dH [4] "names") (e1 (dH [5,6] "net") (C 0))) (Ä (C 1) Å))) (nt:=n1) (tb:=tb) (pt:=pt) (n:=n) (r:=[sL B]) (d:=n2) (by clear ok hn h1;walk_at "mid");have p2:=NH (f:=eC .non) (nt:=n2) (tb:=tb) (pt:=pt) (n:=n) (r:=[sL B]) (d:=.non) rfl;unfold eQ;clear ok hn h1 nt f1 f2;generalize (cl (fL 4) (Ä (e1 (dH [4] "names") (e1 (dH [5,6] "net") (C 0))) (Ä (C 1) Å)))=FN at *;generalize k7 0 [5,6] "net" FN=S1,k7 0 [6] "table" (eC .non)=S2 at *;walk_at "mid"
theorem VO {n:Int}(hn:oB na)(h1:na≠[]):jE [dk nt tb pt n,cx ("goings"::na)]=U (.tup [.str "ok",dk (cJ (na.map .str) []) .non (.lst []) n]):=by
 have nw:=Qd (ns:=na.map .str) (J:=[]) ⟨pJ.mpr h1,hn.le,by simp,nofun,id,nofun⟩ (by rw[cA]) (Oi hn h1);have s1:d7 (cx ("goings"::na)) (U 1) L=sL (na.map .str):=by show U (D.lst (á _ (U ((1:Nat):Int)) L))=_;rw[xo];rfl
 replace nw:fL 4 [.lst (na.map .str),.lst []]=U (cJ (na.map .str) []):=nw;generalize cJ (na.map .str) []=n2 at *;generalize na.map D.str=N,cx ("goings"::na)=Ϝ at *;have p1:=O2 (f:=cl (fL 4) (Ä (λZ=>((C 1) Z).bind λd=>((Û (eC (.int 1))) Z).bind λl=>(î Z).bind λh=>d7 d l h) (Ä (λZ=>(Å Z).bind λS=>(sL S)) Å))) (nt:=nt) (tb:=tb) (pt:=pt) (n:=n) (r:=[U Ϝ]) (d:=n2) (by clear hn h1;walk_at "mid");have p2:=NH (f:=eC .non) (nt:=n2) (tb:=tb) (pt:=pt) (n:=n) (r:=[U Ϝ]) (d:=.non) rfl;have p3:=Xx (f:=λZ=>(Å Z).bind λS=>(sL S)) (nt:=n2) (tb:=.non) (pt:=pt) (n:=n) (r:=[U Ϝ]) (d:=.lst []) rfl;unfold jE;clear hn h1 nw s1;generalize (cl (fL 4) (Ä (λZ=>((C 1) Z).bind λd=>((Û (eC (.int 1))) Z).bind λl=>(î Z).bind λh=>d7 d l h) (Ä (λZ=>(Å Z).bind λS=>(sL S)) Å)))=FN at *;generalize k7 0 [5,6] "net" FN=S1,k7 0 [6] "table" (eC .non)=S2,k7 0 [6] "puts" (λZ=>(Å Z).bind λS=>(sL S))=S3 at *;walk_at "mid"
variable {gs:L3.Env->Option (List D)}
section
variable {bs:List gx}{n:Int}
theorem Ln {r:L3.Env}(ok:gY na.length bs)(hn:oB na)(h1:na≠[])(h:gs (U (dk (cJ (na.map .str) J) tb pt n)::r)=U [.lst (bs.map c9)]):pw 0 gs eQ (U (dk (cJ (na.map .str) J) tb pt n)::r)=U (.str "ok",U (dk (cJ (na.map .str) bs) .non pt n)::r):=by unfold pw;rw[h];show(if lT (dk (cJ (na.map .str) J) tb pt n)=Â then(eQ [dk (cJ (na.map .str) J) tb pt n,.lst (bs.map c9)]).bind _ else L)=_;rw[ť ok hn h1];rfl
theorem VP (ok:gY na.length (J++bs))(hn:oB na)(h1:na≠[])(hr:Ar na ws bs):f7 [dk (cJ (na.map .str) J) tb pt n,cx ws]=U (.tup [.str "ok",dk (cJ (na.map .str) (J++bs)) .non pt n]):=by
 have f1:dH [4] "names" (cJ (na.map .str) J)=U (cx na):=rfl;have f3:dH [4] "arrows" (cJ (na.map .str) J)=sL (J.map c9):=rfl;have f2:dH [5,6] "net" (dk (cJ (na.map .str) J) tb pt n)=U (cJ (na.map .str) J):=rfl;have ar:=hr.arr;have ad:dF (.lst (J.map c9)) (.lst (bs.map c9))=sL ((J++bs).map c9):=by rw[fV];refine ve ?_;have:=ok.len;rw[cV]at this;simp only[cA];omega
 have G:=Ln (J:=J) (tb:=tb) (pt:=pt) (n:=n) (gs:=Ä (e2 dF (e1 (dH [4] "arrows") (e1 (dH [5,6] "net") (C 0))) (cl fT (Ä (C 1) (Ä (e1 (dH [4] "names") (e1 (dH [5,6] "net") (C 0))) Å)))) Å) (r:=[U (cx ws)]) ok hn h1 (by generalize cJ (na.map .str) J=n1 at *;generalize dk n1 tb pt n=d1,J.map c9=A,bs.map c9=B,(J++bs).map c9=AB,cx na=N,cx ws=W at *;clear ok hn h1 hr;walk_at "mid");unfold f7;generalize pw 0 _ eQ=CF,cJ (na.map .str) J=n1,cJ (na.map .str) (J++bs)=n2 at *;generalize dk n1 tb pt n=d1,dk n2 .non pt n=d2 at *;clear ok hn h1 hr f1 f2 f3 ar ad;walk_at "mid"
theorem Ť (xs:List α)(j:Nat)(f:α->D):d7 (.lst (xs.map f)) L (U (j:Int))=sL ((xs.take j).map f)/\d7 (.lst (xs.map f)) (U ((j:Int)+1)) L=sL ((xs.drop (j+1)).map f):=by
 constructor
 ·show U (D.lst (á _ L (U (j:Int))))=_;rw[Kh,Ce]
 ·show U (D.lst (á _ (U ((j+1:Nat):Int)) L))=_;rw[xo,Cd]
theorem ţ {j:Nat}{wr:List Str}(hj:j<10000000000)(ok:gY na.length (J.take j++J.drop (j+1)))(hl:J.length<=1000)(hn:oB na)(h1:na≠[]):nL [dk (cJ (na.map .str) J) tb pt n,cx ("cut"::dn (j:Int)::wr)]=U (.tup [.str "ok",dk (cJ (na.map .str) (J.take j++J.drop (j+1))) .non pt n]):=by
 have f3:dH [4] "arrows" (cJ (na.map .str) J)=sL (J.map c9):=rfl;have f2:dH [5,6] "net" (dk (cJ (na.map .str) J) tb pt n)=U (cJ (na.map .str) J):=rfl;have x1:dX (cx ("cut"::dn (j:Int)::wr)) (.int 1)=U (.str (dn (j:Int))):=yc (xs:=(("cut":Str)::dn (j:Int)::wr).map D.str) (j:=1) rfl;have i1:=Ca hj;obtain⟨s1,s2⟩:=Ť J j c9;have ad:dF (.lst ((J.take j).map c9)) (.lst ((J.drop (j+1)).map c9))=sL ((J.take j++J.drop (j+1)).map c9):=by rw[fV];refine ve ?_;simp only[cA,fK,gk];omega
 have G:=Ln (J:=J) (tb:=tb) (pt:=pt) (n:=n) (gs:=Ä (e2 dF (λZ=>((e1 (dH [4] "arrows") (e1 (dH [5,6] "net") (C 0))) Z).bind λd=>(î Z).bind λl=>((Û (C 2)) Z).bind λh=>d7 d l h) (λZ=>((e1 (dH [4] "arrows") (e1 (dH [5,6] "net") (C 0))) Z).bind λd=>((Û (e2 dF (C 2) (eC (.int 1)))) Z).bind λl=>(î Z).bind λh=>d7 d l h)) Å) (r:=[U (cx ("cut"::dn (j:Int)::wr)),sI (j:Int)]) ok hn h1 (by generalize cJ (na.map .str) J=n1 at *;generalize dk n1 tb pt n=d1,J.map c9=A,(J.take j++J.drop (j+1)).map c9=AB,(J.take j).map c9=A1 at *;generalize (J.drop (j+1)).map c9=A2,cx ("cut"::dn (j:Int)::wr)=W at *;clear ok hn h1 i1 x1 hj hl;generalize (j:Int)=ϗ at *;walk_at "mid");unfold nL;generalize pw 0 _ eQ=CF,cJ (na.map .str) J=n1,cJ (na.map .str) (J.take j++J.drop (j+1))=n2 at *;generalize dk n1 tb pt n=d1,dk n2 .non pt n=d2,cx ("cut"::dn (j:Int)::wr)=W at *;clear ok hn h1 hl hj f2 f3 ad s1 s2;generalize dn (j:Int)=ij at *;generalize (j:Int)=ϗ at *;walk_at "mid"
end
def gx.at (a:gx)(t:Int):gx:={ a with t:=t }
theorem Ţ (a:gx)(h:a.c=.ride->a.b=0)(t:Int):g0 [c9 a,.int t]=U (c9 (a.at t)):=by
 have r1:∀s g t:Int,jB 1 [.int s,.int g,.int t]=U (.obj 1 ["start","goal","time","behind"] [.int s,.int g,.int t,.int 0]):=λ_ _ _=>rfl;have r2:∀s g t b:Int,jC 2 [.int s,.int g,.int t,.int b]=U (.obj 2 ["start","goal","time","behind"] [.int s,.int g,.int t,.int b]):=λ_ _ _ _=>rfl;have r3:∀s g t b:Int,jA 3 [.int s,.int g,.int t,.int b]=U (.obj 3 ["start","goal","time","behind"] [.int s,.int g,.int t,.int b]):=λ_ _ _ _=>rfl;have f1:=fs a;have f2:=fg a;have f4:=fb a;have hi:=λall sub=>Ĭ all sub a;obtain⟨c,s,g,t0,b⟩:=a;cases c
 ·have hb:b=0:=h rfl;have e:c9 (gx.at ⟨.ride,s,g,t0,b⟩ t)=.obj 1 ["start","goal","time","behind"] [.int (s:Int),.int (g:Int),.int t,.int 0]:=by rw[hb];rfl
  rw[e];have hn:Kd.ride.n=1:=rfl;generalize c9 ⟨.ride,s,g,t0,b⟩=ea at *;clear h e hb f4;unfold g0;walk_at "mid"
 ·have e:c9 (gx.at ⟨.wait,s,g,t0,b⟩ t)=.obj 2 ["start","goal","time","behind"] [.int (s:Int),.int (g:Int),.int t,.int (b:Int)]:=rfl;rw[e];have hn:Kd.wait.n=2:=rfl;generalize c9 ⟨.wait,s,g,t0,b⟩=ea at *;clear h e;unfold g0;walk_at "mid"
 ·have e:c9 (gx.at ⟨.back,s,g,t0,b⟩ t)=.obj 3 ["start","goal","time","behind"] [.int (s:Int),.int (g:Int),.int t,.int (b:Int)]:=rfl;rw[e];have hn:Kd.back.n=3:=rfl;generalize c9 ⟨.back,s,g,t0,b⟩=ea at *;clear h e;unfold g0;walk_at "mid"
section
variable {bs:List gx}{n:Int}
theorem VQ {j t:Nat}{a:gx}{wr:List Str}(hj:j<10000000000)(ht:t<10000000000)(ha:J[j]?=U a)(hb:a.c=.ride->a.b=0)(ok:gY na.length (J.set j (a.at t)))(hn:oB na)(h1:na≠[]):kP [dk (cJ (na.map .str) J) tb pt n,cx ("change"::dn (j:Int)::dn (t:Int)::wr)]=U (.tup [.str "ok",dk (cJ (na.map .str) (J.set j (a.at t))) .non pt n]):=by
 have f3:dH [4] "arrows" (cJ (na.map .str) J)=sL (J.map c9):=rfl;have f2:dH [5,6] "net" (dk (cJ (na.map .str) J) tb pt n)=U (cJ (na.map .str) J):=rfl;have l1:rE [.lst (J.map c9)]=sL (J.map c9):=rfl;have x1:dX (cx ("change"::dn (j:Int)::dn (t:Int)::wr)) (.int 1)=U (.str (dn (j:Int))):=yc (xs:=(("change":Str)::dn (j:Int)::dn (t:Int)::wr).map D.str) (j:=1) rfl;have x2:dX (cx ("change"::dn (j:Int)::dn (t:Int)::wr)) (.int 2)=U (.str (dn (t:Int))):=yc (xs:=(("change":Str)::dn (j:Int)::dn (t:Int)::wr).map D.str) (j:=2) rfl;have i1:=Ca hj;have i2:=Ca ht;have xa:dX (.lst (J.map c9)) (.int (j:Int))=U (c9 a):=yc (by rw[dm,ha];rfl);have wt:=Ţ a hb t;have vD:j<J.length:=(de.mp ha).1;have G:=Ln (J:=J) (tb:=tb) (pt:=pt) (n:=n) (gs:=Ä (C 2) Å) (r:=[U (cx ("change"::dn (j:Int)::dn (t:Int)::wr)),sL ((J.set j (a.at t)).map c9),sI (j:Int)]) ok hn h1 rfl;have pl:sW 2 (C 3) (cl g0 (Ä (e2 dX (C 2) (C 3)) (Ä (eN mR (Ä (e2 dX (C 1) (eC (.int 2))) Å)) Å))) [U (dk (cJ (na.map .str) J) tb pt n),U (cx ("change"::dn (j:Int)::dn (t:Int)::wr)),sL (J.map c9),sI (j:Int)]=U (.nx [U (dk (cJ (na.map .str) J) tb pt n),U (cx ("change"::dn (j:Int)::dn (t:Int)::wr)),sL ((J.set j (a.at t)).map c9),sI (j:Int)]):=by
  have ev:(cl g0 (Ä (e2 dX (C 2) (C 3)) (Ä (eN mR (Ä (e2 dX (C 1) (eC (.int 2))) Å)) Å))) [U (dk (cJ (na.map .str) J) tb pt n),U (cx ("change"::dn (j:Int)::dn (t:Int)::wr)),sL (J.map c9),sI (j:Int)]=U (c9 (a.at t)):=by generalize dk (cJ (na.map .str) J) tb pt n=d1,J.map c9=A,cx ("change"::dn (j:Int)::dn (t:Int)::wr)=W,c9 (a.at t)=C2,c9 a=e1' at *;clear ok hn h1 G f2 f3 hb ha vD i1 x1 hj ht;walk_at "mid"
  unfold sW;rw[ev];have hm:mI (J.map c9) ((j:Nat):Int) (c9 (a.at t))=U ((J.set j (a.at t)).map c9):=by unfold mI ò;rw[cA,if_pos (by omega),if_pos (by omega),List.map_set];simp
  show(mI (J.map c9) ((j:Nat):Int) (c9 (a.at t))).bind _=_;rw[hm];rfl
 unfold kP;generalize sW 2 (C 3) _=SP,pw 0 (Ä (C 2) Å) eQ=CF,cJ (na.map .str) J=n1,cJ (na.map .str) (J.set j (a.at t))=n2 at *;generalize dk n1 tb pt n=d1,dk n2 .non pt n=d2,cx ("change"::dn (j:Int)::dn (t:Int)::wr)=W,J.map c9=A,(J.set j (a.at t)).map c9=A2 at *;clear ok hn h1 hb ha vD hj ht i2 x2 xa wt;generalize dn (j:Int)=ij at *;generalize (j:Int)=ϗ at *;unfold Jy;walk_at "mid"
end
abbrev As:=Option (Int×Int)
def uT:As->D
 |none=>.non
 |some (l,h)=>.kt [.int l,.int h]
def Ć (p:Str×As):Prop:=∀l h,p.2=U (l,h)->∃n:Nat,p.1=dn (n:Int)/\n<10000000000/\l<=(n:Int)/\(n:Int)<=h
theorem Xy {p:Str×As}(h:Ć p):ie [.str p.1,uT p.2]=U (.bl Â):=by
 obtain⟨w,s⟩:=p;cases s with
 |none=>show ie [.str w,.non]=_;have i1:pQ Ã .non .non=U (.bl Â):=rfl;unfold ie;clear h;walk_at "mid"
 |some q=>obtain⟨l,u⟩:=q;obtain⟨n,e,hn,h1,h2⟩:=h l u rfl;have e:w=dn (n:Int):=e;subst e;show ie [.str (dn (n:Int)),.kt [.int l,.int u]]=_;have i1:pQ Ã (.kt [.int l,.int u]) .non=U (.bl Ã):=rfl;have nm:=KM hn;have ni:=Ca hn;have x0:dX (.kt [.int l,.int u]) (.int 0)=sI l:=rfl;have x1:dX (.kt [.int l,.int u]) (.int 1)=sI u:=rfl;generalize dn (n:Int)=w at *;unfold ie;clear h hn;walk_at "mid"
theorem ji {α:Type}(f g:α->D):∀xs:List α,oQ (xs.map f) (xs.map g)=xs.map λx=>.tup [f x,g x]
 |[]=>rfl
 |x::xs=>congrArg (D.tup [f x,g x]::·) (ji f g xs)
variable {ps:List (Str×As)}
section
variable {w0:Str}
def kD (w0:Str)(ps:List (Str×As)):List Str:=w0::ps.map (·.1)
theorem OO:d7 (cx (kD w0 ps)) (U 1) L=sL (ps.map λp=>.str p.1):=by show U (D.lst (á _ (U ((1:Nat):Int)) L))=_;rw[xo];show U (D.lst ((ps.map (·.1)).map D.str))=_;rw[df];rfl
theorem DO {r:List Str}:dX (cx (w0::r)) (.int 0)=U (.str w0):=yc (xs:=(w0::r).map D.str) (j:=0) rfl
theorem Oj:Cb [.lst (ps.map λp=>.str p.1),.kt (ps.map λp=>uT p.2)]=U (ps.map λp=>.tup [.str p.1,uT p.2]):=congrArg U (ji _ _ ps)
theorem š (hk:Dh yk (.str w0)=U (.kt (ps.map λp=>uT p.2)))(hl:ps.length<=100)(hf:∀p∈ps,Ć p):lV [cx (kD w0 ps)]=U (.bl Â):=by
 have x0:dX (cx (kD w0 ps)) (.int 0)=U (.str w0):=DO;have sl:=OO (w0:=w0) (ps:=ps);have zf:=Oj (ps:=ps);have a1:eN lm (Ä lH Å) [U (cx (kD w0 ps)),U (.kt (ps.map λp=>uT p.2))]=U (.bl Â):=by
  have:lH [U (cx (kD w0 ps)),U (.kt (ps.map λp=>uT p.2))]=sL (ps.map λ_=>D.bl Â):=by
   refine zt (λp:Str×As=>D.tup [.str p.1,uT p.2]) (λ_=>D.bl Â) ps ?_ (by omega) λp hp=>⟨_,rfl,?_⟩
   ·generalize (ps.map λp=>D.tup [.str p.1,uT p.2])=R at *;generalize (ps.map λp=>D.str p.1)=R1,D.kt (ps.map λp=>uT p.2)=R2,cx (kD w0 ps)=Ϝ at *;clear hf hl hk x0;walk_at "mid"
   ·have:=Xy (hf p hp);generalize uT p.2=ϙ at *;clear hf hl hk zf sl;walk_at "mid"
  unfold eN Ä;rw[this];show lm [.lst (ps.map λ_=>D.bl Â)]=_;rw[all_map];simp
 have l1:ee [cx (kD w0 ps)]=sI ((ps.length:Int)+1):=(ya _).trans (by unfold kD;simp);have l2:ee [.kt (ps.map λp=>uT p.2)]=sI (ps.length:Int):=by show U (D.int (((ps.map λp=>uT p.2).length:Nat):Int))=_;rw[cA]
 unfold lV;generalize eN lm (Ä lH Å)=AA,D.kt (ps.map λp=>uT p.2)=R2,cx (kD w0 ps)=Ϝ,(ps.length:Int)=pl at *;clear hf hl sl zf;walk_at "mid"
theorem Š (hk:Dh yk (.str w0)=U (.kt (ps.map λp=>uT p.2)))(hi:sN Ã yk (.str w0)=U (.bl Â))(hl:ps.length<=100):gH [cx (kD w0 ps)]=U (cx ((ps.filter λp=>p.2.isNone).map (·.1))):=by
 have x0:dX (cx (kD w0 ps)) (.int 0)=U (.str w0):=DO;have sl:=OO (w0:=w0) (ps:=ps);have zf:=Oj (ps:=ps);have q1:lW [U (cx (kD w0 ps))]=U (cx ((ps.filter λp=>p.2.isNone).map (·.1))):=by
  unfold cx;rw[df];refine v6 (λp:Str×As=>D.tup [.str p.1,uT p.2]) (λp=>p.2.isNone) (λp=>D.str p.1) ps ?_ (by omega) λp hp=>⟨_,rfl,?_,λ_=>rfl⟩
  ·generalize (ps.map λp=>D.tup [.str p.1,uT p.2])=R at *;generalize (ps.map λp=>D.str p.1)=R1,D.kt (ps.map λp=>uT p.2)=R2 at *;show _=U R;have e:D.lst ((kD w0 ps).map D.str)=cx (kD w0 ps):=rfl;rw[e];generalize cx (kD w0 ps)=Ϝ at *;clear hl hi e;walk_at "mid"
  ·obtain⟨w,s⟩:=p;cases s with
   |none=>rfl
   |some q=>rfl
 generalize cx ((ps.filter λp=>p.2.isNone).map (·.1))=R,cx (kD w0 ps)=Ϝ at *;unfold gH;generalize lW=Q at *;clear hl sl zf hk;walk_at "mid"
end
variable {tbl:D}
section
variable {n:Int}{w0:Str}{r:List Str}
theorem UP {d:D}:ki [d,cx ("goings"::r)]=U (.bl Â):=by have x0:dX (cx ("goings"::r)) (.int 0)=U (.str "goings"):=DO;have e1:ga Ã (.str "goings") (.str "goings")=U (.bl Â):=(xh (zw _) (zw _)).trans (by simp);generalize cx ("goings"::r)=Ϝ at *;unfold ki;walk_at "mid"
structure Wd (w0:Str)(g p:Bool):Prop where
 ok:cX.strOk w0=Â
 ng:¬w0 = "goings"
 np:¬w0 = "plan"
 pl:ð Ã (.str w0) yq=U (.bl p)
 fo:(yk.lookup w0).isSome=g
theorem Wd.eg {g p:Bool}(h:Wd w0 g p)(neg:Bool):ga neg (.str w0) (.str "goings")=U (.bl neg):=by rw[xh h.ok (zw _),decide_eq_false h.ng];cases neg<;>rfl
theorem Wd.ep {g p:Bool}(h:Wd w0 g p):ga Ã (.str w0) (.str "plan")=U (.bl Ã):=by rw[xh h.ok (zw _),decide_eq_false h.np];rfl
theorem VR (hw:Wd w0 Ã Ã)(hf:fI [cx (w0::r)]=U (.bl Â)):ki [dk (cJ (na.map .str) J) tbl pt n,cx (w0::r)]=U (.bl Â):=by
 have x0:dX (cx (w0::r)) (.int 0)=U (.str w0):=DO;have eq1:=hw.eg Ã;have eq2:=hw.ep;have eq3:=hw.pl;have k1:sN Â yk (.str w0)=U (.bl Â):=by show U (D.bl (!(yk.lookup w0).isSome))=_;rw[hw.fo];rfl
 have f1:dH [5,6] "net" (dk (cJ (na.map .str) J) tbl pt n)=U (cJ (na.map .str) J):=rfl;have f2:pQ Ã (cJ (na.map .str) J) .non=U (.bl Ã):=rfl;unfold ki;generalize cJ (na.map .str) J=n1 at *;generalize dk n1 tbl pt n=d1,cx (w0::r)=Ϝ,yq=WP,sN Â yk=KI at *;clear hw;walk_at "mie"
theorem Xz {p:Bool}(hw:Wd w0 Â p)(ht:p=Â->pQ Ã tbl .non=U (.bl Ã))(hf:lV [cx (kD w0 ps)]=U (.bl Â))(ha:ð Â (.str w0) zp=U (.bl Â)\/ð Â (.str w0) zp=U (.bl Ã)/\∃(j:Nat) (s:As) (qs:List (Str×As)),ps=(dn (j:Int),s)::qs/\j<10000000000/\j<J.length) :
  ki [dk (cJ (na.map .str) J) tbl pt n,cx (kD w0 ps)]=U (.bl Â):=by
 have x0:dX (cx (kD w0 ps)) (.int 0)=U (.str w0):=DO;have eq1:=hw.eg Ã;have eq2:=hw.ep;have eq3:=hw.pl;have k1:sN Â yk (.str w0)=U (.bl Ã):=by show U (D.bl (!(yk.lookup w0).isSome))=_;rw[hw.fo];rfl
 have f1:dH [5,6] "net" (dk (cJ (na.map .str) J) tbl pt n)=U (cJ (na.map .str) J):=rfl;have f4:dH [6] "table" (dk (cJ (na.map .str) J) tbl pt n)=U tbl:=rfl;have f5:dH [4] "arrows" (cJ (na.map .str) J)=sL (J.map c9):=rfl;have f2:pQ Ã (cJ (na.map .str) J) .non=U (.bl Ã):=rfl;have la:ee [.lst (J.map c9)]=sI (J.length:Int):=(ya _).trans (by rw[cA]);have last:(eB (å (tb (e2 (ð Â) (e2 dX (C 1) (eC (.int 0))) (eC zp))) (tb (e2 tL (eN mR (Ä (e2 dX (C 1) (eC (.int 1))) Å)) (eN ee (Ä (e1 (dH [4] "arrows") (e1 (dH [5,6] "net") (C 0))) Å)))))) [U (dk (cJ (na.map .str) J) tbl pt n),U (cx (kD w0 ps))]=U (.bl Â):=by
  rcases ha with ha|⟨ha,j,s,qs,rfl,hj,hl⟩
  ·generalize cx (kD w0 ps)=Ϝ at *;generalize zp=WA at *;clear hw hf ht eq1 eq2 eq3 k1;walk_at "mie"
  ·have x1:dX (cx (kD w0 ((dn (j:Int),s)::qs))) (.int 1)=U (.str (dn (j:Int))):=yc (xs:=(kD w0 ((dn (j:Int),s)::qs)).map D.str) (j:=1) rfl;have i1:=Ca hj;have lt:(j:Int)<(J.length:Int):=by omega
   generalize cx (kD w0 ((dn (j:Int),s)::qs))=Ϝ,zp=WA,cJ (na.map .str) J=n1 at *;generalize dk n1 tbl pt n=d1,dn (j:Int)=ij at *;clear hw hf ht eq1 eq2 eq3 k1 hj hl;walk_at "mie"
 unfold ki;generalize (eB (å (tb (e2 (ð Â) (e2 dX (C 1) (eC (.int 0))) (eC zp))) (tb (e2 tL (eN mR (Ä (e2 dX (C 1) (eC (.int 1))) Å)) (eN ee (Ä (e1 (dH [4] "arrows") (e1 (dH [5,6] "net") (C 0))) Å))))))=LA,cJ (na.map .str) J=n1 at *;generalize dk n1 tbl pt n=d1,cx (kD w0 ps)=Ϝ,yq=WP,sN Â yk=KI at *;clear hw ha la f5;cases p
 ·clear ht f4;walk_at "mie"
 ·have ht:=ht rfl;walk_at "mie"
end
variable {vB:D}{mf:List D->Option D}
section
variable {Bs tV Bt:D}{n:Int}{w0:Str}{wr:List Str}
theorem Lz (hf:∀w∈w0::wr,oV 32 w)(hl:∀w∈w0::wr,w.length<=20)(hz:wr.length<=1000)(hk:cX.strOk w0=Â)(ok:ki [dk nt tbl pt n,cx (w0::wr)]=U (.bl Â))
  (told:w0 = "goings"\/∃(tl na:List Str) (J:List gx),gH [cx (w0::wr)]=U (cx tl)/\(∀x∈tl,x∈na)/\nt=cJ (na.map .str) J) (hd:gN.lookup w0=U mf) (hm:mf [dk nt tbl pt n,cx (w0::wr)]=U (.tup [vB,dk Bs tV Bt n])) :
  dM [dk nt tbl pt n,.str (Str.join (eX 32) (w0::wr))]=U (.tup [vB,dk Bs tV Bt (n+1)]):=by
 have sp:ko (.str (Str.join (eX 32) (w0::wr))) (.str " ")=U (cx (w0::wr)):=by rw[CS];exact HA (b:=20) (by simp) hf hl (by simp only[cB];omega)
 have i1:sM "str" (.str (Str.join (eX 32) (w0::wr)))=U (.bl Â):=rfl;have x0:dX (cx (w0::wr)) (.int 0)=U (.str w0):=DO;have ch:(Ò (tb (e2 (ga Â) (e2 dX (C 2) (eC (.int 0))) (eC (.str "goings")))) (ì (cl gb (Ä (cl gH (Ä (C 2) Å)) (Ä (e1 (dH [4] "names") (e1 (dH [5,6] "net") (C 0))) Å)))) É) [U (dk nt tbl pt n),U (.str (Str.join (eX 32) (w0::wr))),U (cx (w0::wr)),L]=U (.nx [U (dk nt tbl pt n),U (.str (Str.join (eX 32) (w0::wr))),U (cx (w0::wr)),L]):=by
  have eg:=xh (neg:=true) hk (zw "goings");by_cases hg:w0 = "goings"
  ·rw[decide_eq_true hg]at eg;generalize cx (w0::wr)=Ϝ,Str.join (eX 32) (w0::wr)=ϗ,dk nt tbl pt n=d1 at *;clear hf hl hz told hd hm ok hk hg;walk_at "mid"
  ·rw[decide_eq_false hg]at eg;obtain⟨tl,na,J,h1,h2,h3⟩:=told.resolve_left hg;have rf:=Xw h2;have f1:dH [5,6] "net" (dk nt tbl pt n)=U nt:=rfl;have f2:dH [4] "names" nt=U (cx na):=by rw[h3];rfl
   generalize cx (w0::wr)=Ϝ,Str.join (eX 32) (w0::wr)=ϗ,cx na=N,cx tl=TL,dk nt tbl pt n=d1 at *;clear hf hl hz told hd hm ok hk hg h2 h3;walk_at "mid"
 have dp:é 3 (qQ 0 (e2 dX (C 2) (eC (.int 0))) (Ä (C 2) Å) gN) [U (dk nt tbl pt n),U (.str (Str.join (eX 32) (w0::wr))),U (cx (w0::wr)),L]=U (.nx [U (dk Bs tV Bt n),U (.str (Str.join (eX 32) (w0::wr))),U (cx (w0::wr)),U vB]):=by
  have cf:qQ 0 (e2 dX (C 2) (eC (.int 0))) (Ä (C 2) Å) gN [U (dk nt tbl pt n),U (.str (Str.join (eX 32) (w0::wr))),U (cx (w0::wr)),L]=U (vB,[U (dk Bs tV Bt n),U (.str (Str.join (eX 32) (w0::wr))),U (cx (w0::wr)),L]):=by have k1:e2 dX (C 2) (eC (.int 0)) [U (dk nt tbl pt n),U (.str (Str.join (eX 32) (w0::wr))),U (cx (w0::wr)),L]=U (.str w0):=x0;unfold qQ;rw[k1];show(gN.lookup w0).bind _=_;rw[hd];show(if lT (dk nt tbl pt n)=Â then(mf [dk nt tbl pt n,cx (w0::wr)]).bind _ else L)=_;rw[hm];rfl
  unfold é;rw[cf];rfl
 have pa:=Ze (nt:=Bs) (tb:=tV) (pt:=Bt) (n:=n) (r:=[U (.str (Str.join (eX 32) (w0::wr))),U (cx (w0::wr)),U vB]);unfold dM;generalize (Ò (tb (e2 (ga Â) (e2 dX (C 2) (eC (.int 0))) (eC (.str "goings")))) (ì (cl gb (Ä (cl gH (Ä (C 2) Å)) (Ä (e1 (dH [4] "names") (e1 (dH [5,6] "net") (C 0))) Å)))) É)=S1,é 3 (qQ 0 (e2 dX (C 2) (eC (.int 0))) (Ä (C 2) Å) gN)=S2,yF 0 [6] "answered" (eC (.int 1))=S3,cx (w0::wr)=Ϝ,Str.join (eX 32) (w0::wr)=ϗ,dk nt tbl pt n=d1,dk Bs tV Bt n=d2,dk Bs tV Bt (n+1)=d3 at *;clear hf hl hz told hd hm hk x0;walk_at "mid"
theorem Ex {i:Nat}{row d:D}(h0:C i Z=U (dk nt tbl pt n))(h1:gs Z=U [row])(h2:dM [dk nt tbl pt n,row]=U (.tup [vB,d])):lq i 6 "say" gs dM Z=U (vB,Z.set i (U d)):=by unfold lq;rw[h0,h1];show(if 6=6/\(["net","table","puts","answered"]:List Str).contains "say"=Ã then(dM [dk nt tbl pt n,row]).bind _ else L)=_;rw[if_pos ⟨rfl,by decide +kernel⟩,h2];rfl
end
def Fw (x:Option D)(b:Bool):Bool:=match x with
 |some (.bl c)=>c==b
 |_=>Ã
theorem vf {x:Option D}{b:Bool}(h:Fw x b=Â):x=U (.bl b):=by
 unfold Fw at h;split at h
 ·rw[eq_of_beq h]
 ·cases h
theorem ş:∀w∈(["ride","wait","back"]:List Str),Wd w Ã Ã:=by intro w hw;refine⟨?_,?_,?_,vf ?_,?_⟩<;>revert w<;>decide +kernel
theorem Ş:Wd "cut" Â Ã:=⟨zw _,by decide +kernel,by decide +kernel,vf (by decide +kernel),by decide +kernel⟩
theorem VS:Wd "change" Â Ã:=⟨zw _,by decide +kernel,by decide +kernel,vf (by decide +kernel),by decide +kernel⟩
section
variable {n:Int}{bs:List gx}
theorem UQ (hn:oB na)(h1:na≠[]):dM [dk nt tbl pt n,.str (E5 na)]=U (.tup [.str "ok",dk (cJ (na.map .str) []) .non (.lst []) (n+1)]) :=
 Lz (mf:=jE) (λw hw=>(PX hn hw).1 32 (by decide)) (λw hw=>by have:=(PX hn hw).2.1;omega) (by have:=hn.le;omega) (zw _) UP (.inl rfl) rfl (VO hn h1)
theorem VT {w0:Str}{wr:List Str}(hn:oB na)(h1:na≠[])(h0:w0∈(["ride","wait","back"]:List Str))(hr:Ar na (w0::wr) bs)(ok:gY na.length (J++bs)):dM [dk (cJ (na.map .str) J) tbl pt n,.str (Str.join (eX 32) (w0::wr))]=U (.tup [.str "ok",dk (cJ (na.map .str) (J++bs)) .non pt (n+1)]):=by
 have hw:=ş w0 h0;have hl:=hr.len;rw[cB]at hl;obtain⟨tl,t1,t2⟩:=hr.told;have ld:gN.lookup w0=U f7:=by simp only[cu,dO,or_false]at h0;rcases h0 with rfl|rfl|rfl<;>rfl
 refine Lz (mf:=f7) hr.f32 (λw hw=>by have:=hr.wl w hw;omega) (by omega) hw.ok (VR hw hr.form) (.inr ⟨tl,na,J,?_,t2,rfl⟩) ld (VP ok hn h1 hr);have x0:dX (cx (w0::wr)) (.int 0)=U (.str w0):=DO;have k1:sN Ã yk (.str w0)=U (.bl Ã):=by show U (D.bl ((yk.lookup w0).isSome))=_;rw[hw.fo]
 have ep:=hw.ep;unfold gH;generalize cx (w0::wr)=Ϝ,cx tl=TL,sN Ã yk=KI at *;clear hw hr h0 ok hn h1 t2 ld hl;walk_at "mid"
theorem HU {j:Nat}(h:j<10000000000):oV 32 (dn (j:Int))/\(dn (j:Int)).length<=20:=⟨Gf (by decide),by have:=xt h;omega⟩
theorem KN {w0:Str}{p:Bool}{Bs tV Bt:D}(hw:Wd w0 Â p)(ht:p=Â->pQ Ã tbl .non=U (.bl Ã))(h0:oV 32 w0/\w0.length<=20)(hp:∀p∈ps,Ć p/\oV 32 p.1/\p.1.length<=20)(hl:ps.length<=100)(hk:Dh yk (.str w0)=U (.kt (ps.map λp=>uT p.2)))
  (ha:ð Â (.str w0) zp=U (.bl Â)\/ð Â (.str w0) zp=U (.bl Ã)/\∃(j:Nat) (s:As) (qs:List (Str×As)),ps=(dn (j:Int),s)::qs/\j<10000000000/\j<J.length)
  (told:∀p∈ps,p.2=L->p.1∈na) (hd:gN.lookup w0=U mf) (hm:mf [dk (cJ (na.map .str) J) tbl pt n,cx (kD w0 ps)]=U (.tup [vB,dk Bs tV Bt n])) :
  dM [dk (cJ (na.map .str) J) tbl pt n,.str (Str.join (eX 32) (kD w0 ps))]=U (.tup [vB,dk Bs tV Bt (n+1)]):=by
 have mem:∀w∈kD w0 ps,oV 32 w/\w.length<=20:=λw hw=>by
  rcases cu.mp hw with rfl|hw
  ·exact h0
  ·obtain⟨q,hq,rfl⟩:=cO.mp hw;exact(hp q hq).2
 refine Lz (mf:=mf) (λw hw=>(mem w hw).1) (λw hw=>(mem w hw).2) (by rw[cA];omega) hw.ok (Xz hw ht (š hk hl λq hq=>(hp q hq).1) ha) (.inr ⟨_,na,J,Š hk ?_ hl,λx hx=>?_,rfl⟩) hd hm
 ·show U (D.bl ((yk.lookup w0).isSome))=_;rw[hw.fo]
 ·obtain⟨q,hq,rfl⟩:=cO.mp hx;have:=cR.mp hq;exact told q this.1 (by simpa using this.2)
theorem Zf {j:Nat}(hj:j<J.length)(hl:J.length<=1000)(hn:oB na)(h1:na≠[])(ok:gY na.length (J.take j++J.drop (j+1))):dM [dk (cJ (na.map .str) J) tbl pt n,.str (Str.join (eX 32) ["cut",dn (j:Int)])]=U (.tup [.str "ok",dk (cJ (na.map .str) (J.take j++J.drop (j+1))) .non pt (n+1)]):=by
 refine KN (w0:="cut") (ps:=[(dn (j:Int),U (0,999999999999999))]) Ş nofun (by constructor<;>(try unfold oV)<;>decide +kernel) (λp hp=>?_) (by simp) rfl (.inr ⟨vf (by decide +kernel),j,_,[],rfl,by omega,hj⟩) (λp hp=>?_) rfl (ţ (by omega) ok hl hn h1)
 ·rw[cG]at hp;subst hp;exact⟨λl h e=>by cases e;exact⟨j,rfl,by omega,by omega,by omega⟩,HU (by omega)⟩
 ·rw[cG]at hp;subst hp;exact nofun
theorem UR {j t:Nat}{a:gx}(ha:J[j]?=U a)(hb:a.c=.ride->a.b=0)(ht:t<=1000000000)(hl:J.length<=1000)(hn:oB na)(h1:na≠[])(ok:gY na.length (J.set j (a.at t))):dM [dk (cJ (na.map .str) J) tbl pt n,.str (Str.join (eX 32) ["change",dn (j:Int),dn (t:Int)])]=U (.tup [.str "ok",dk (cJ (na.map .str) (J.set j (a.at t))) .non pt (n+1)]):=by
 have hj:j<J.length:=(de.mp ha).1;refine KN (w0:="change") (ps:=[(dn (j:Int),U (0,999999999999999)),(dn (t:Int),U (0,999999999999999))]) VS nofun (by constructor<;>(try unfold oV)<;>decide +kernel) (λp hp=>?_) (by simp) rfl (.inr ⟨vf (by decide +kernel),j,_,_,rfl,by omega,hj⟩) (λp hp=>?_) rfl (VQ (by omega) (by omega) ha hb ok hn h1)
 ·simp only[cu,dO,or_false]at hp;rcases hp with rfl|rfl
  ·exact⟨λl h e=>by cases e;exact⟨j,rfl,by omega,by omega,by omega⟩,HU (by omega)⟩
  ·exact⟨λl h e=>by cases e;exact⟨t,rfl,by omega,by omega,by omega⟩,HU (by omega)⟩
 ·simp only[cu,dO,or_false]at hp;rcases hp with rfl|rfl<;>exact nofun
end
abbrev T:=Option Int
def lt (m:Int):T->T
 |none=>L
 |some i=>U (i+m)
def mx:T->T->T
 |none,b=>b
 |a,L=>a
 |some i,U j=>U (if j > i then j else i)
theorem Zg (o:T)(m:Int):su [ez o,.int m]=U (ez (lt m o)):=by unfold su;cases o<;>simp only[ez,lt]<;>walk_at "mid"
theorem XB (a b:T):qA [ez a,ez b]=U (ez (mx a b)):=by unfold qA;cases a<;>cases b<;>simp only[ez,mx]<;>walk_at "mid"
theorem Zh (a b:T):mx a b=mx b a:=by cases a<;>cases b<;>simp only[mx];congr 1;omega
structure wV (d:D)(f:Nat->Nat->T):Prop where
 get:∀g r:Nat,((sE d (.tup [.int (g:Int),.int (r:Int)])).bind λr=>U (r.getD .non))=U (ez (f g r))
theorem Zi:jJ [.lst []]=U (.dT [] []):=rfl
theorem EU:wV (.dT [] []) λ_ _=>L:=⟨λ_ _=>rfl⟩
def kr (n:Nat)(f:Nat->T):List D:=(cv n).map λg=>ez (f g)
def dC (n m:Nat)(Ϛ:Nat->Nat->T):List D:=(cv m).map λi=>D.lst (kr n (Ϛ i))
theorem XC (n:Nat)(f:Nat->T):(kr n f).length=n:=by simp[kr]
theorem v7 (n m:Nat)(Ϛ:Nat->Nat->T):(dC n m Ϛ).length=m:=by simp[dC]
theorem OP {n:Nat}(f:Nat->T){g:Nat}(h:g<n):atI (kr n f) (g:Int)=U (ez (f g)):=yc (by simp[kr,h])
theorem w9 {n:Nat}{f f':Nat->T}(h:∀g,g<n->f g=f' g):kr n f=kr n f':=by unfold kr;apply gS;intro g hg;rw[h g (cD.mp hg)]
variable {Ϛ Y':Nat->Nat->T}
theorem MZ {n m:Nat}(h:∀i,i<m->∀g,g<n->Ϛ i g=Y' i g):dC n m Ϛ=dC n m Y':=by unfold dC;apply gS;intro i hi;rw[w9 (h i (cD.mp hi))]
theorem XD {n:Nat}(f:Nat->T){g:Nat}(h:g<n)(v:T):mI (kr n f) (g:Int) (ez v)=U (kr n λx=>if x=g then v else f x):=by
 unfold mI;have hx:ò (kr n f).length (g:Int)=U g:=by rw[XC];exact OZ h
 rw[hx];simp only[dN,Option.some.injEq];apply kT
 ·simp[kr]
 ·intro i h1 h2;simp[kr,rN];by_cases hi:g=i
  ·subst hi;simp
  ·rw[if_neg hi,if_neg (λz=>hi z.symm)]
def dep (J:List gx):Nat:=J.foldl (λm a=>max m a.b) 1
theorem Hl:∀(J:List gx) (m:Nat),m<=J.foldl (λm a=>max m a.b) m/\(∀a∈J,a.b<=J.foldl (λm a=>max m a.b) m)/\((∀a∈J,a.b<=4)->m<=4->J.foldl (λm a=>max m a.b) m<=4)
 |[],m=>⟨cH _,λa h=>(by cases h),λ_ h=>h⟩
 |x::J,m=>by
  obtain⟨h1,h2,h3⟩:=Hl J (max m x.b);refine⟨by show m<=J.foldl _ (max m x.b);omega,λa ha=>?_,λh4 hm=>h3 (λa ha=>h4 a (ck _ ha)) (by have:=h4 x cg;omega)⟩;show a.b<=J.foldl _ (max m x.b);rcases cu.mp ha with rfl|ha
  ·omega
  ·exact h2 a ha
theorem HC (J:List gx):1<=dep J:=(Hl J 1).1
theorem vn {a:gx}(h:a∈J):a.b<=dep J:=(Hl J 1).2.1 a h
theorem Et (h:∀a∈J,a.b<=4):dep J<=4:=(Hl J 1).2.2 h (by decide)
theorem KO {α:Type}(f:α->Int):∀xs:List α,lB (xs.map λx=>D.int (f x))=U (xs.map f)
 |[]=>rfl
 |x::xs=>by show(lB (xs.map λx=>D.int (f x))).bind _=_;rw[KO f xs];rfl
theorem K5:∀(J:List gx) (m:Nat),(J.map λa=>(a.b:Int)).foldl max (m:Int)=((J.foldl (λm a=>max m a.b) m:Nat):Int)
 |[],m=>rfl
 |x::J,m=>by show(J.map λa=>(a.b:Int)).foldl max (max (m:Int) (x.b:Int))=_;rw[show max (m:Int) (x.b:Int)=((max m x.b:Nat):Int)by omega,K5 J];rfl
theorem vg (ns:List D)(J:List gx):dH [4] "names" (cJ ns J)=sL ns:=rfl
theorem Kn (ns:List D)(J:List gx):dH [4] "arrows" (cJ ns J)=sL (J.map c9):=rfl
theorem ŝ (hl:J.length<=1000):eM [cJ ns J]=sI (dep J:Int):=by
 have q:∀r:L3.Env,r[0]?.join=U (cJ ns J)->lC r=sL (J.map λa=>D.int (a.b:Int)):=λr hr=>by
  have e:Ý (e1 (dH [4] "arrows") (C 0)) r=U (J.map c9):=by have:C 0 r=U (cJ ns J):=hr;unfold Ý e1;rw[this];rfl
  exact zt c9 (λa=>D.int (a.b:Int)) J e (by omega) λa _=>⟨_,rfl,by have:=fb a;walk_at "mid"⟩
 have m1:uQ [.lst ([.int 1]++J.map λa=>D.int (a.b:Int))]=sI (dep J:Int):=by
  unfold uQ;dsimp only;have:lB ([.int 1]++J.map λa=>D.int (a.b:Int))=U (1::J.map λa=>(a.b:Int)):=by show(lB (J.map λa=>D.int (a.b:Int))).bind _=_;rw[KO];rfl
  rw[this];show U (D.int ((J.map λa=>(a.b:Int)).foldl max ((1:Nat):Int)))=_;rw[K5];rfl
 have m2:dF (.lst [.int 1]) (.lst (J.map λa=>D.int (a.b:Int)))=sL ([.int 1]++J.map λa=>D.int (a.b:Int)):=ve (by simp;omega);generalize [D.int 1]++J.map (λa=>D.int (a.b:Int))=zs at m1 m2;unfold eM;clear hl;walk_at "mid"
variable {S:List D}
theorem HD {m:Str}{f:List D->Option D}(h:(["names","arrows"]:List Str).contains m=Ã):n4 4 m f (cJ ns J) S=f (cJ ns J::S):=by show(if 4=4/\(["names","arrows"]:List Str).contains m=Ã then f (cJ ns J::S)else L)=_;rw[if_pos ⟨rfl,h⟩]
theorem Hm (hl:J.length<=1000):n4 4 "most_behind" eM (cJ ns J) []=sI (dep J:Int):=by rw[HD (by decide +kernel)];exact ŝ hl
def ã (J:List gx)(g:Nat):List Nat:=(J.zipIdx.filter λp=>decide (p.1.g=g)).map (·.2)
theorem PY (hl:J.length<=1000)(g:Nat):hX [cJ ns J,.int (g:Int)]=sL (eK (ã J g)):=by
 have q:∀r:L3.Env,r[0]?.join=U (cJ ns J)->r[1]?.join=sI (g:Int)->nM r=sL (eK (ã J g)):=λr hr RG=>by
  have e:(λZ=>((Ä (e1 (dH [4] "arrows") (C 0)) Å) Z).bind λS=>match S with|[.lst xs]=>U (iX 0 xs)|_=>L) r=U (J.zipIdx.map λp=>D.tup [.int (p.2:Int),c9 p.1]):=by
   have:C 0 r=U (cJ ns J):=hr;have e2:e1 (dH [4] "arrows") (C 0) r=sL (J.map c9):=by unfold e1;rw[this];rfl
   show((Ä (e1 (dH [4] "arrows") (C 0)) Å) r).bind _=_;unfold Ä;rw[e2];show U (iX 0 (J.map c9))=_;rw[Hi c9]
  have hc:iB r [1]=[sI (g:Int)]:=by unfold iB;simp[RG]
  have:=v6 (own:=2) (cap:=[1]) (fi:=λZ=>((Ä (e1 (dH [4] "arrows") (C 0)) Å) Z).bind λS=>match S with|[.lst xs]=>U (iX 0 xs)|_=>L) (g:=gT (È (gV 0) (È (gV 1) Ô))) (p:=tb (e2 (ga Ã) (e1 (dH [0,1,2,3] "goal") (C 1)) (C 2))) (f:=C 0) (λp:gx×Nat=>D.tup [.int (p.2:Int),c9 p.1]) (λp=>decide (p.1.g=g)) (λp=>D.int (p.2:Int)) J.zipIdx e (by simp;omega) (λp _=>by
    refine⟨_,rfl,?_,λ_=>rfl⟩;rw[hc];have:=fg p.1;have hd:decide ((p.1.g:Int)=(g:Int))=decide (p.1.g=g):=by
     by_cases h:p.1.g=g
     ·simp[h]
     ·have:¬(p.1.g:Int)=(g:Int):=by omega
      simp[h,this]
    rw[←hd];walk_at "mid")
  rw[show nM r=_ from this];unfold ã eK;rw[df];rfl
 unfold hX;clear hl;walk_at "mid"
def tm (J:List gx)(Ϛ:Nat->Nat->T)(Ϝ g:Nat)(w:T):T:=(J.filter λa=>decide (a.g=g)).foldl (λw a=>mx w (lt a.t (Ϛ (Ϝ-a.b) a.s))) w
theorem XF {xs:List D}{n b:Nat}(hn:xs.length=n+1)(hb:b<=n):atI xs (-1-(b:Int))=xs[n-b]?:=by
 unfold atI;have:ò xs.length (-1-(b:Int))=U (n-b):=by unfold ò;rw[if_neg (by omega),if_pos (by omega)];congr 1;omega
 rw[this];rfl
def Hc (Ϛ:Nat->Nat->T)(Ϝ:Nat)(s:T×Option D×Option D)(p:gx×Nat):T×Option D×Option D:=(mx s.1 (lt p.1.t (Ϛ (Ϝ-p.1.b) p.1.s)),U (D.int (p.2:Int)),U (c9 p.1))
theorem Ŝ {Ϝ:Nat}(hb:∀a∈J,a.b<=Ϝ/\a.s<mv)(g:Nat)(w:T) :
  ig [cJ ns J,.lst (dC mv (Ϝ+1) Ϛ),.lst (eK (ã J g)),ez w]=U (ez (tm J Ϛ Ϝ g w)):=by
 have GX:∀p∈J.zipIdx.filter (λp=>decide (p.1.g=g)),p∈J.zipIdx:=λp hp=>(cR.mp hp).1;have hz:=j7 (λa:gx=>decide (a.g=g)) J 0;have hn:eK (ã J g)=(J.zipIdx.filter (λp=>decide (p.1.g=g))).map λp=>D.int (p.2:Int):=by unfold ã eK;rw[df];rfl
 generalize hq:J.zipIdx.filter (λp=>decide (p.1.g=g))=ps at GX hn hz;obtain⟨e1,_⟩:=Kg (g:=gV 5) (b:=iI) (λp:gx×Nat=>D.int (p.2:Int)) (λs:T×Option D×Option D=>[U (cJ ns J),sL (dC mv (Ϝ+1) Ϛ),sL (eK (ã J g)),U (ez w),U (ez s.1),s.2.1,s.2.2])
  (Hc Ϛ Ϝ) (λ_=>True) ps (w,L,L) trivial (λs p hp _=>by
   refine⟨_,rfl,.inl ?_,trivial⟩;unfold Hc;have hp:=PR (GX p hp);have hm:p.1∈J:=fF.mpr ⟨_,hp⟩;have f1:=fs p.1;have f2:=ft p.1;have f3:=fb p.1;have f4:=Kn ns J;have i1:dX (.lst (J.map c9)) (.int (p.2:Int))=U (c9 p.1):=yc (by rw[dm,hp];rfl);have i2:dX (.lst (dC mv (Ϝ+1) Ϛ)) (.int (-1-(p.1.b:Int)))=sL (kr mv (Ϛ (Ϝ-p.1.b))):=by show atI _ _=_;rw[XF (n:=Ϝ) (by rw[v7]) (hb p.1 hm).1];unfold dC;rw[dm,fY (by omega)];rfl
   have i3:dX (.lst (kr mv (Ϛ (Ϝ-p.1.b)))) (.int (p.1.s:Int))=U (ez (Ϛ (Ϝ-p.1.b) p.1.s)):=OP _ (hb p.1 hm).2;have l1:=Zg (Ϛ (Ϝ-p.1.b) p.1.s) p.1.t;have l2:=XB s.1 (lt p.1.t (Ϛ (Ϝ-p.1.b) p.1.s));unfold iI;clear hp hm hb hn hz GX hq;walk_at "mid")
 have e2:∀(ps:List (gx×Nat)) (s:T×Option D×Option D),(ps.foldl (Hc Ϛ Ϝ) s).1=(ps.map (·.1)).foldl (λw a=>mx w (lt a.t (Ϛ (Ϝ-a.b) a.s))) s.1:=by
  intro ps;induction ps with
  |nil=>exactλs=>rfl
  |cons p ps ih=>intro s;rw[iy,ih];rfl
 have e3:=e2 ps (w,L,L);rw[hz]at e3;generalize ps.foldl (Hc Ϛ Ϝ) (w,L,L)=ϙ at e1 e3;have e4:ϙ.1=tm J Ϛ Ϝ g w:=e3;rw[e4,←hn]at e1;unfold ig;clear hn hz GX hq e2 e3 e4 hb;walk_at "mid"
def wr (Ϛ:Nat->Nat->T)(Ϝ:Nat)(ϕ:Nat->T):Nat->Nat->T:=λi g=>if i=Ϝ then ϕ g else Ϛ i g
theorem KP {Ϝ g:Nat}(w:T)(h:∀a∈J,a.g=g->Ϛ (Ϝ-a.b) a.s=Y' (Ϝ-a.b) a.s):tm J Ϛ Ϝ g w=tm J Y' Ϝ g w:=by
 unfold tm;have h2:∀a∈J.filter (λa=>decide (a.g=g)),Ϛ (Ϝ-a.b) a.s=Y' (Ϝ-a.b) a.s:=λa ha=>by have:=cR.mp ha;exact h a this.1 (by simpa using this.2)
 generalize J.filter (λa=>decide (a.g=g))=bs at h2;induction bs generalizing w with
 |nil=>rfl
 |cons b bs ih=>rw[iy,iy,h2 b cg];exact ih _ λa ha=>h2 a (ck _ ha)
theorem XH {Ϝ x:Nat}(hx:x<mv)(v:T):(dC mv (Ϝ+1) Ϛ).set Ϝ (.lst (kr mv λy=>if y=x then v else Ϛ Ϝ y))=dC mv (Ϝ+1) (wr Ϛ Ϝ λy=>if y=x then v else Ϛ Ϝ y):=by
 apply kT
 ·simp[dC]
 ·intro i h1 h2;have hi:i<Ϝ+1:=by simpa[dC]using h2
  rw[rN];by_cases hL:Ϝ=i
  ·subst hL;rw[if_pos rfl];simp only[dC,nD,ml];congr 1;exact w9 λg _=>by simp[wr]
  ·rw[if_neg hL];have:¬i=Ϝ:=λz=>hL z.symm;simp only[dC,nD,ml];congr 1;exact w9 λg _=>by simp[wr,this]
variable {rounds:Nat}
theorem İ {Ϝ r depth:Nat}{f:Nat->Nat->T}{d:D}{se EW x9 x10:Option D}{p:List Nat}(hd:wV d f)(hb:∀a∈J,a.b<=Ϝ/\a.s<mv)(ok:Ü.Ok (W0 J) mv p)(hn:ns.length=mv)(hm:mv<=1000)
  (fR:D) (sK:∀g,g<mv->dX fR (.int (g:Int))=sL (eK (ã J g))) :
  ∃(ϕ:Nat->T) (y9 uF:Option D),gX (gV 9) hU (eK p) [U (cJ ns J),sI (rounds:Int),se,EW,sL (dC mv (Ϝ+1) Ϛ),U d,U fR,sL (eK p),sI (r:Int),x9,x10] =
   U (.nx [U (cJ ns J),sI (rounds:Int),se,EW,sL (dC mv (Ϝ+1) (wr Ϛ Ϝ ϕ)),U d,U fR,sL (eK p),sI (r:Int),y9,uF])/\∀g∈p,ϕ g=tm J (wr Ϛ Ϝ ϕ) Ϝ g (f g r):=by
 obtain⟨ρ',h1,pre,ϕ,y9,uF,e1,⟨post,e2⟩,hZ,rfl⟩:=ub (g:=gV 9) (b:=hU) (S:=eK p) (Z:=[U (cJ ns J),sI (rounds:Int),se,EW,sL (dC mv (Ϝ+1) Ϛ),U d,U fR,sL (eK p),sI (r:Int),x9,x10])
  (λS Z=>∃(pre:List Nat) (ϕ:Nat->T) (y9 uF:Option D),S=eK pre/\(∃post,p=pre++post)/\(∀g∈pre,ϕ g=tm J (wr Ϛ Ϝ ϕ) Ϝ g (f g r))/\Z=[U (cJ ns J),sI (rounds:Int),se,EW,sL (dC mv (Ϝ+1) (wr Ϛ Ϝ ϕ)),U d,U fR,sL (eK p),sI (r:Int),y9,uF])
  ⟨[],Ϛ Ϝ,x9,x10,rfl,⟨p,rfl⟩,λg hg=>(by cases hg),by
   have:wr Ϛ Ϝ (Ϛ Ϝ)=Ϛ:=by
    funext i g;unfold wr;by_cases h:i=Ϝ
    ·rw[if_pos h,h]
    ·rw[if_neg h]
   rw[this]⟩ (by
  rintro S dd post Z e ⟨pre,ϕ,y9,uF,rfl,⟨oM,e'⟩,hZ,rfl⟩;have e3:eK oM=dd::post:=by
   have:eK p=eK pre++eK oM:=by rw[e'];simp[eK]
   rw[this]at e;exact uU e
  cases oM with
  |nil=>cases e3
  |cons x oM=>
   have BD:dd=.int (x:Int):=by have:eK (x::oM)=.int (x:Int)::eK oM:=rfl;rw[this]at e3;cases e3;rfl
   subst BD;have hx:x∈p:=by rw[e'];simp
   have Jl:=ok.lt x hx;have zA:p[pre.length]?=U x:=by rw[e'];simp
   have AI:∀a∈J,a.b=0->a.g=x->a.s∈pre:=λa ha h0 hg=>by
    have:=ok.ord pre.length x zA a (cR.mpr ⟨ha,by simpa using h0⟩) hg;rw[e',A6]at this
    ·exact this
    ·rfl
   have GV:x∉pre:=λz=>by have:=ok.nd;rw[e',cT]at this;exact this.2.2 x z x cg rfl
   have AD:∀g∈pre,∀a∈J,a.b=0->a.g=g->a.s≠x:=λg hg a ha h0 pf z=>by
    obtain⟨i,hi,ei⟩:=iN.mp hg;have RF:p[i]?=U g:=by rw[e',fE hi];simp[hi,ei]
    have:=ok.ord i g RF a (cR.mpr ⟨ha,by simpa using h0⟩) pf;rw[e',lh (by omega)]at this;exact GV (z▸iO this)
   have Rq:=hd.get x r;have RB:=sK x Jl;have Fj:=Ŝ (ns:=ns) (Ϛ:=wr Ϛ Ϝ ϕ) hb x (f x r);have key:∀g,(∀a∈J,a.g=g->a.b=0->a.s≠x)->∀(v w:T),tm J (wr Ϛ Ϝ λy=>if y=x then v else ϕ y) Ϝ g w=tm J (wr Ϛ Ϝ ϕ) Ϝ g w:=λg hg v w=>by
    refine KP w λa ha pf=>?_;unfold wr;by_cases hL:Ϝ-a.b=Ϝ
    ·rw[if_pos hL,if_pos hL];dsimp only;rw[if_neg ?_];by_cases h0:a.b=0
     ·exact hg a ha pf h0
     ·have:=(hb a ha).1;omega
    ·rw[if_neg hL,if_neg hL]
   generalize hv:tm J (wr Ϛ Ϝ ϕ) Ϝ x (f x r)=v at Fj;refine⟨_,_,rfl,.inl ?_,pre++[x],λy=>if y=x then v else ϕ y,sI (x:Int),U (ez (f x r)),(Ob pre x).symm▸rfl,⟨oM,by rw[e'];simp⟩,?_,rfl⟩
   ·have Fg:=XH (mv:=mv) (Ϝ:=Ϝ) (x:=x) (Ϛ:=wr Ϛ Ϝ ϕ) Jl v;have hY:(wr (wr Ϛ Ϝ ϕ) Ϝ λy=>if y=x then v else wr Ϛ Ϝ ϕ Ϝ y)=wr Ϛ Ϝ λy=>if y=x then v else ϕ y:=by funext i g;unfold wr;by_cases h:i=Ϝ<;>simp[h]
    have RL:mI (kr mv (wr Ϛ Ϝ ϕ Ϝ)) (x:Int) (ez v)=U (kr mv λy=>if y=x then v else wr Ϛ Ϝ ϕ Ϝ y):=XD _ Jl v;rw[hY]at Fg;have Ru:ò (dC mv (Ϝ+1) (wr Ϛ Ϝ ϕ)).length (-1)=U Ϝ:=by rw[v7];unfold ò;rw[if_neg (by omega),if_pos (by omega)];congr 1;omega
    have vS:(dC mv (Ϝ+1) (wr Ϛ Ϝ ϕ))[Ϝ]?=sL (kr mv (wr Ϛ Ϝ ϕ Ϝ)):=by unfold dC;rw[dm,fY (by omega)];rfl
    unfold hU xM;clear key AD AI GV zA hx hv e e' e3 hZ ok hb hd sK;walk_at "mid"
   ·intro g hg;rcases cW.mp hg with hg|hg
    ·have xG:g≠x:=λz=>GV (z▸hg);dsimp only;rw[if_neg xG,key g (λa ha pf h0=>AD g hg a ha h0 pf)];exact hZ g hg
    ·rw[cG]at hg;subst hg;dsimp only;rw[if_pos rfl,key g (λa ha pf h0 z=>GV (z▸AI a ha h0 pf)),hv])
 have uN:pre=p:=by have hl:=congrArg mU e1;simp[eK]at hl;rw[e2,cV]at hl;have:post=[]:=sg (by omega);rw[e2,this,dA]
 subst uN;exact⟨ϕ,y9,uF,h1,hZ⟩
structure ó (J:List gx)(mv depth rounds:Nat)(past:Nat->Nat->T)(f:Nat->Nat->T)(Ϛ:Nat->Nat->T):Prop where
 past:∀i,i<depth->∀g,g<mv->Ϛ i g=past i g
 rc:∀r,r<rounds->∀g,g<mv->Ϛ (depth+r) g=tm J Ϛ (depth+r) g (f g r)
theorem VU {m:Nat}(Ϛ:Nat->Nat->T)(ϕ:Nat->T):dC mv m Ϛ++[D.lst (kr mv ϕ)]=dC mv (m+1) (wr Ϛ m ϕ):=by
 unfold dC;rw[A9,fV];congr 1
 ·apply gS;intro i hi;have:i≠m:=by have:=cD.mp hi;omega
  congr 1;exact w9 λg _=>by simp[wr,this]
 ·simp only[cL,qM];congr 2;exact w9 λg _=>by simp[wr]
theorem Wg (h:gY mv J)(hn:ns.length=mv):∃p:List Nat,n4 4 "order" mw (cJ ns J) []=sL (eK p)/\Ü.Ok (W0 J) mv p/\p.length=mv/\∀g,g<mv->g∈p:=by obtain⟨p,h1,h2⟩:=h.placed;refine⟨p,?_,h2⟩;rw[HD (by decide +kernel)];have f1:=vg ns J;have f2:=Kn ns J;rw[←hn]at h1;unfold mw;clear hn h h2;walk_at "mid"
theorem Zj (hl:J.length<=1000)(hn:ns.length=mv)(hm:mv<=1000)(r:L3.Env)(hr:r[0]?.join=U (cJ ns J)):jR r=sL ((cv mv).map λg=>D.lst (eK (ã J g))):=by
 have e:eN ee (Ä (e1 (dH [4] "names") (C 0)) Å) r=sI (mv:Int):=by
  have:C 0 r=U (cJ ns J):=hr;have f1:=vg ns J;subst hn;have e2:e1 (dH [4] "names") (C 0) r=sL ns:=by unfold e1;rw[this];exact f1
  unfold eN Ä;rw[e2];rfl
 refine zt (λ(t:Nat)=>D.int (t:Int)) (λg=>D.lst (eK (ã J g))) (cv mv) (Gj e (by omega)) (by rw[eD];omega) λg _=>⟨_,rfl,?_⟩;have hc:iB r [0]=[U (cJ ns J)]:=by unfold iB;simp[hr]
 rw[hc];have h1:=PY (ns:=ns) hl g;have h2:n4 4 "into" hX (cJ ns J) [.int (g:Int)]=sL (eK (ã J g)):=by rw[HD (by decide +kernel)];exact h1
 clear hn hl hm e;walk_at "mid"
theorem ś {d se:D}{past f:Nat->Nat->T}(h:gY mv J)(hn:ns.length=mv)(hr:rounds<=1000)(ha:km [cJ ns J,se]=U (.lst (dC mv (dep J) past)))
  (hf:jJ [.lst []]=U d) (hd:wV d f) :
  ∃Ϛ,iU [cJ ns J,.int (rounds:Int),se,.non]=U (.lst (dC mv (dep J+rounds) Ϛ))/\ó J mv (dep J) rounds past f Ϛ:=by
 obtain⟨p,hp,ok,kL,xD⟩:=Wg h hn;have iu:=h.len;have ox:=h.le;have AC:=Et λa ha=>(h.right a ha).b;have fR:∀r:L3.Env,r[0]?.join=U (cJ ns J)->jR r=U (.lst ((cv mv).map λg=>D.lst (eK (ã J g)))):=Zj (by omega) hn (by omega);have sK:∀g,g<mv->dX (.lst ((cv mv).map λg=>D.lst (eK (ã J g)))) (.int (g:Int))=U (.lst (eK (ã J g))):=λg hg=>yc (by simp[hg]);generalize (D.lst ((cv mv).map λg=>D.lst (eK (ã J g))))=N at fR sK;obtain⟨ρ',h1,Ϛ,y8,y9,uF,rfl,run⟩:=w8 (g:=gV 8) (b:=jO) (lo:=0) (n:=rounds) (Z:=[U (cJ ns J),U (.int (rounds:Int)),U se,U .non,U (.lst (dC mv (dep J) past)),U d,U N,U (.lst (eK p)),L,L,L])
  (λr Z=>∃Ϛ y8 y9 uF,Z=[U (cJ ns J),U (.int (rounds:Int)),U se,U .non,U (.lst (dC mv (dep J+r) Ϛ)),U d,U N,U (.lst (eK p)),y8,y9,uF]/\ó J mv (dep J) r past f Ϛ)
  ⟨past,L,L,L,rfl,λ_ _ _ _=>rfl,λr hr=>by omega⟩ (by
   rintro r Z D2 ⟨Ϛ,y8,y9,uF,rfl,run⟩;obtain⟨ϕ,z9,SU,hz,hZ⟩:=İ (ns:=ns) (J:=J) (mv:=mv) (Ϝ:=dep J+r) (r:=r) (depth:=0) (rounds:=rounds) (Ϛ:=wr Ϛ (dep J+r) λ_=>L) (se:=some se) (EW:=some .non) (x9:=y9) (x10:=uF) (p:=p) hd (λa ha=>⟨by have:=vn ha;omega,(h.right a ha).s⟩) ok hn (by omega) N sK;have hw:wr (wr Ϛ (dep J+r) λ_=>L) (dep J+r) ϕ=wr Ϛ (dep J+r) ϕ:=by funext i g;unfold wr;by_cases hi:i=dep J+r<;>simp[hi]
   rw[hw]at hz hZ;refine⟨_,_,rfl,.inl ?_,wr Ϛ (dep J+r) ϕ,U (.int (r:Int)),z9,SU,rfl,?_,?_⟩
   ·have e0:(0:Int)+(r:Int)=(r:Int):=by omega
    have rp:sV (.lst [.non]) (.int (ns.length:Int))=U (.lst (kr mv λ_=>L)):=by unfold sV;dsimp only;rw[if_pos ⟨by omega,by omega,by simp⟩];congr 2;unfold kr;rw[sx,eD];simp[hn,ez]
    have vR:(dC mv (dep J+r) Ϛ).length<16777216:=by rw[v7];omega
    have hsn:=VU (mv:=mv) (m:=dep J+r) Ϛ λ_=>L;have f1:=vg ns J;rw[e0];unfold jO;clear hZ hw sK fR run xD ok hp h hn ha hf hd iu ox AC hr D2;walk_at "mid";rfl
   ·intro i hi g hg;unfold wr;rw[if_neg (by omega)];exact run.past i hi g hg
   ·intro r2 hr2 g hg;by_cases he:r2=r
    ·subst he;have:wr Ϛ (dep J+r2) ϕ (dep J+r2) g=ϕ g:=by simp[wr]
     rw[this];exact hZ g (xD g hg)
    ·have h3:wr Ϛ (dep J+r) ϕ (dep J+r2) g=Ϛ (dep J+r2) g:=by unfold wr;rw[if_neg (by omega)]
     rw[h3,run.rc r2 (by omega) g hg];refine KP _ λa _ _=>?_;unfold wr;rw[if_neg (by omega)])
 refine⟨Ϛ,?_,run⟩;have r1:jS [.int (rounds:Int)]=U (lI 0 rounds):=by rw[xw (by omega) (by omega)];simp
 have Ms:=fR [U (cJ ns J),U (.int (rounds:Int)),U se,U .non,U (.lst (dC mv (dep J) past)),U d,L,L,L,L,L] rfl;unfold iU;clear hd fR sK run xD ok h hn iu ox AC hr kL;walk_at "mid"
theorem Wi {k n:Nat}(Ϛ:Nat->Nat->T):(dC mv (n+k) Ϛ).drop n=dC mv k λr g=>Ϛ (n+r) g:=by
 apply kT
 ·simp[dC]
 ·intro i h1 h2;simp only[dC,List.getElem_drop,nD,ml]
theorem Uv (h:gY mv J)(hn:ns.length=mv):km [cJ ns J,.non]=sL (dC mv (dep J) λ_ _=>U 0):=by
 have iu:=h.len;have ox:=h.le;have AC:=Et λa ha=>(h.right a ha).b;have mo:=Hm (ns:=ns) (J:=J) (by omega);have q:∀r:L3.Env,r[0]?.join=U (cJ ns J)->r[2]?.join=sI (dep J:Int)->oN r=sL (dC mv (dep J) λ_ _=>U 0):=λr h0 h2=>by
  refine zt (λ(t:Nat)=>D.int (t:Int)) (λ_=>D.lst (kr mv λ_=>U 0)) (cv (dep J)) (Gj h2 (by omega)) (by rw[eD];omega) λg _=>⟨_,rfl,?_⟩;have hc:iB r [0]=[U (cJ ns J)]:=by unfold iB;simp[h0]
  rw[hc];have rp:sV (.lst [.int 0]) (.int (ns.length:Int))=sL (kr mv λ_=>U 0):=by unfold sV;dsimp only;rw[if_pos ⟨by omega,by omega,by simp⟩];congr 2;unfold kr;rw[sx,eD];simp[hn,ez]
  have f1:=vg ns J;clear hn h iu ox AC mo;walk_at "mid"
 unfold km;clear h hn iu ox AC;walk_at "mid"
theorem LB (h:gY mv J)(hn:ns.length=mv)(hr:rounds<=1000) :
  ∃Ϛ,sQ [cJ ns J,.int (rounds:Int),.non,.non]=sL (dC mv rounds λr g=>Ϛ (dep J+r) g)/\ó J mv (dep J) rounds (λ_ _=>U 0) (λ_ _=>L) Ϛ:=by
 have ha:=Uv h hn;obtain⟨Ϛ,h1,h2⟩:=ś h hn hr ha Zi EU;refine⟨Ϛ,?_,h2⟩;have mo:=Hm (ns:=ns) (J:=J) (by have:=h.len;omega);have e3:d7 (.lst (dC mv (dep J+rounds) Ϛ)) (U (dep J:Int)) L=sL (dC mv rounds λr g=>Ϛ (dep J+r) g):=by rw[xf,xo _ (dep J),Wi]
 unfold sQ;clear h hn hr ha h2;walk_at "mid"
theorem ó.one {past CH f f':Nat->Nat->T}(h:gY mv J)(h1:ó J mv (dep J) rounds past f Ϛ)(h2:ó J mv (dep J) rounds CH f' Y')(hp:∀i,i<dep J->∀g,g<mv->past i g=CH i g)(hf:∀r,r<rounds->∀g,g<mv->f g r=f' g r) :
  ∀i,i<dep J+rounds->∀g,g<mv->Ϛ i g=Y' i g:=by
 obtain⟨rank,RI⟩:=h.rank;have main:∀n,∀i,i<dep J+rounds->∀g,g<mv->i*1<n->∀k g,g<mv->rank g<k->Ϛ i g=Y' i g:=by
  intro n;induction n with
  |zero=>intro i _ _ _ hi;omega
  |succ n ih=>
   intro i hi _ _ tK k;induction k with
   |zero=>intro g _ hk;omega
   |succ k Jp=>
    intro g hg hk;by_cases hd:i<dep J
    ·rw[h1.past i hd g hg,h2.past i hd g hg,hp i hd g hg]
    ·obtain⟨r,rfl⟩:∃r,i=dep J+r:=⟨i-dep J,by omega⟩;rw[h1.rc r (by omega) g hg,h2.rc r (by omega) g hg,hf r (by omega) g hg];refine KP _ λa ha pf=>?_;have hs:=(h.right a ha).s;by_cases hb:a.b=0
     ·rw[hb,ma];exact Jp a.s hs (by have:=RI a ha hb;rw[pf]at this;omega)
     ·have:=vn ha;have zA:=HC J;exact ih (dep J+r-a.b) (by omega) a.s hs (by omega) (rank a.s+1) a.s hs (by omega)
 exactλi hi g hg=>main (i+1) i hi g hg (by omega) (rank g+1) g hg (by omega)
def ge (x:T)(v:Int):Prop:=∃y,x=U y/\v<=y
theorem Pc {a:T}(b:T){v:Int}(h:ge a v):ge (mx a b) v:=by
 obtain⟨y,rfl,hy⟩:=h;cases b with
 |none=>exact⟨y,rfl,hy⟩
 |some j=>exact⟨_,rfl,by split<;>omega⟩
theorem Ś (a:T){b:T}{v:Int}(h:ge b v):ge (mx a b) v:=by rw[Zh];exact Pc a h
theorem O3 {α:Type}(F:α->T){v:Int}:∀(xs:List α) (w:T),(ge w v\/∃a∈xs,ge (F a) v)->ge (xs.foldl (λw a=>mx w (F a)) w) v
 |[],w,h=>by
  rcases h with h|⟨a,ha,_⟩
  ·exact h
  ·cases ha
 |x::xs,w,h=>by
  refine O3 F xs _ ?_;rcases h with h|⟨a,ha,h⟩
  ·exact .inl (Pc _ h)
  ·rcases cu.mp ha with rfl|ha
   ·exact .inl (Ś _ h)
   ·exact .inr ⟨a,ha,h⟩
theorem ř (hl:J.length<=1000):dF (.lst [.int 1]) (.lst (J.map λa=>D.int (a.b:Int)))=sL ([.int 1]++J.map λa=>D.int (a.b:Int))/\uQ [.lst ([.int 1]++J.map λa=>D.int (a.b:Int))]=sI (dep J:Int):=by
 refine⟨ve (by simp;omega),?_⟩;unfold uQ;dsimp only;have:lB ([.int 1]++J.map λa=>D.int (a.b:Int))=U (1::J.map λa=>(a.b:Int)):=by show(lB (J.map λa=>D.int (a.b:Int))).bind _=_;rw[KO];rfl
 rw[this];show U (D.int ((J.map λa=>(a.b:Int)).foldl max ((1:Nat):Int)))=_;rw[K5];rfl
theorem O4 {m:Nat}{i g:Nat}(hi:i<m)(hg:g<mv):dX (.lst (dC mv m Ϛ)) (.int (i:Int))=sL (kr mv (Ϛ i))/\dX (.lst (kr mv (Ϛ i))) (.int (g:Int))=U (ez (Ϛ i g)) :=
 ⟨yc (by unfold dC;rw[dm,fY hi];rfl),OP _ hg⟩
theorem ó.cut {depth yE:Nat}{past f:Nat->Nat->T}(h:ó J mv depth rounds past f Ϛ)(hr:yE<=rounds):ó J mv depth yE past f Ϛ:=⟨h.past,λr D2=>h.rc r (by omega)⟩
def dB (n m:Nat)(X:Nat->Nat->Int):List D:=dC n m λi g=>U (X i g)
variable {X:Nat->Nat->Int}
theorem ud {n m i:Nat}(hi:i<m):dX (.lst (dB n m X)) (.int (i:Int))=sL (eU n (X i)):=yc (by unfold dB dC;rw[dm,fY hi];rfl)
theorem NI (n m:Nat)(X:Nat->Nat->Int):(dB n m X).length=m:=v7 _ _ _
theorem KQ {m f c:Nat}(hm:mv<=1000)(h:f+c<m):kh [.lst (dB mv m X),.int (f:Int),.int (c:Int)]=sL (eU mv λg=>X (f+c) g-X f g):=by
 have i1:=ud (n:=mv) (X:=X) (i:=f) (m:=m) (by omega);have i2:=ud (n:=mv) (X:=X) (i:=f+c) (m:=m) h;have e:((f+c:Nat):Int)=(f:Int)+(c:Int):=by omega
 rw[e]at i2;have q:sT [sL (dB mv m X),sI (f:Int),sI (c:Int)]=sL (eU mv λg=>X (f+c) g-X f g):=by
  refine zt (λ(g:Nat)=>D.tup [.int (X f g),.int (X (f+c) g)]) (λg=>D.int (X (f+c) g-X f g)) (cv mv) ?_ (by rw[eD];omega) λg _=>⟨_,rfl,rfl⟩;have:(Ä (e2 dX (C 0) (C 1)) (Ä (e2 dX (C 0) (e2 dF (C 1) (C 2))) Å)) [sL (dB mv m X),sI (f:Int),sI (c:Int)]=U [.lst (eU mv (X f)),.lst (eU mv (X (f+c)))]:=by generalize eU mv (X (f+c))=v2,eU mv (X f)=v1,dB mv m X=rs at *;clear hm h e;walk_at "mit"
  show((Ä (e2 dX (C 0) (C 1)) (Ä (e2 dX (C 0) (e2 dF (C 1) (C 2))) Å)) [sL (dB mv m X),sI (f:Int),sI (c:Int)]).bind zS=_;rw[this];show U (oQ (eU mv (X f)) (eU mv (X (f+c))))=_;unfold eU;rw[ji]
 generalize (eU mv λg=>X (f+c) g-X f g)=v at *;unfold kh;clear i1 i2 e hm h;walk_at "mit"
theorem Lp (neg:Bool)(n:Nat)(f f':Nat->Int):ga neg (.lst (eU n f)) (.lst (eU n f'))=U (.bl (if neg then !decide (∀g,g<n->f g=f' g)else decide (∀g,g<n->f g=f' g))):=by
 have:=(El Ei).eq (by decide) (neg:=neg) ((cv n).map f) ((cv n).map f');have e:∀f:Nat->Int,(El Ei).enc ((cv n).map f)=.lst (eU n f):=λf=>by show D.lst (((cv n).map f).map D.int)=_;rw[df];rfl
 rw[e,e]at this;have hd:decide ((cv n).map f=(cv n).map f')=decide (∀g,g<n->f g=f' g):=by apply decide_eq_decide.mpr;rw[List.map_inj_left];exact⟨λh g hg=>h g (cD.mpr hg),λh g hg=>h g (cD.mp hg)⟩
 rw[hd]at this;exact this
variable {Ϝ:Nat->Int}
theorem Zk {m f n c:Nat}(hm:mv<=1000)(pA:m<=1000)(hn:1<=n)(h:f+n+c<=m):nI [.lst (dB mv m X),.int (f:Int),.int (f+n-1:Int),.int (c:Int),.lst (eU mv Ϝ)]=U (.bl ((cv n).all λi=>decide (∀g,g<mv->X (f+i+c) g-X (f+i) g=Ϝ g))):=by
 have q:qC [sL (dB mv m X),sI (f:Int),sI (f+n-1:Int),sI (c:Int),sL (eU mv Ϝ)]=sL ((cv n).map λi=>D.bl (decide (∀g,g<mv->X (f+i+c) g-X (f+i) g=Ϝ g))):=by
  refine zt (λ(i:Nat)=>D.int ((f:Int)+(i:Int))) (λi=>D.bl (decide (∀g,g<mv->X (f+i+c) g-X (f+i) g=Ϝ g))) (cv n) ?_ (by rw[eD];omega) λi hi=>⟨_,rfl,?_⟩
  ·have er:(Ä (C 1) (Ä (e2 dF (C 2) (eC (.int 1))) Å)) [sL (dB mv m X),sI (f:Int),sI (f+n-1:Int),sI (c:Int),sL (eU mv Ϝ)]=U [.int (f:Int),.int ((f+n-1:Int)+1)]:=by generalize (f+n-1:Int)=z;rfl
   show((Ä (C 1) (Ä (e2 dF (C 2) (eC (.int 1))) Å)) [sL (dB mv m X),sI (f:Int),sI (f+n-1:Int),sI (c:Int),sL (eU mv Ϝ)]).bind rZ=_;rw[er,dN,u8 (by omega) (by omega) (by omega) (by omega),show((f+n-1:Int)+1-(f:Int)).toNat=n by omega];rfl
  ·have hi:=cD.mp hi;have hg:=KQ (mv:=mv) (m:=m) (f:=f+i) (c:=c) (X:=X) hm (by omega);have he:=Lp Ã mv (λg=>X (f+i+c) g-X (f+i) g) Ϝ;have e:((f+i:Nat):Int)=(f:Int)+(i:Int):=by omega
   rw[e]at hg;rw[if_neg (by decide)]at he;generalize (eU mv λg=>X (f+i+c) g-X (f+i) g)=v,eU mv Ϝ=vl,dB mv m X=rs,decide (∀g,g<mv->X (f+i+c) g-X (f+i) g=Ϝ g)=bb at *;have kU:iB [sL rs,sI (f:Int),sI (f+n-1:Int),sI (c:Int),sL vl] [0,3,4]=[sL rs,sI (c:Int),sL vl]:=rfl;rw[kU];clear hm pA hn h e hi kU;walk_at "mit"
 have a1:=all_map (λi=>decide (∀g,g<mv->X (f+i+c) g-X (f+i) g=Ϝ g)) (cv n);generalize ((cv n).map λi=>D.bl (decide (∀g,g<mv->X (f+i+c) g-X (f+i) g=Ϝ g)))=bs,((cv n).all λi=>decide (∀g,g<mv->X (f+i+c) g-X (f+i) g=Ϝ g))=bb,eU mv Ϝ=vl,dB mv m X=rs at *;unfold nI;clear hm pA hn h;walk_at "mit"
theorem Eu {n g:Nat}{f:Nat->Int}(h:g<n):dX (.lst (eU n f)) (.int (g:Int))=sI (f g):=HQ f h
theorem Zl (hl:J.length<=1000)(hs:∀a∈J,a.s<mv/\a.g<mv):iT [cJ ns J,.lst (eU mv Ϝ)]=U (.bl (J.all λa=>decide (Ϝ a.s<=Ϝ a.g))):=by
 have q:lX [U (cJ ns J),sL (eU mv Ϝ)]=sL (J.map λa=>D.bl (decide (Ϝ a.s<=Ϝ a.g))):=by refine zt c9 (λa=>D.bl (decide (Ϝ a.s<=Ϝ a.g))) J (by unfold Ý;rfl) (by omega) λa ha=>⟨_,rfl,?_⟩;obtain⟨h1,h2⟩:=hs a ha;have i1:=Eu (f:=Ϝ) h1;have i2:=Eu (f:=Ϝ) h2;have f1:=fs a;have f2:=fg a;have kU:iB [U (cJ ns J),sL (eU mv Ϝ)] [1]=[sL (eU mv Ϝ)]:=rfl;rw[kU];generalize eU mv Ϝ=vl at *;clear hl hs h1 h2 kU;walk_at "mit"
 have a1:=all_map (λ(a:gx)=>decide (Ϝ a.s<=Ϝ a.g)) J;generalize (J.map λa=>D.bl (decide (Ϝ a.s<=Ϝ a.g)))=bs,(J.all λa=>decide (Ϝ a.s<=Ϝ a.g))=bb,cJ ns J=net,eU mv Ϝ=vl at *;unfold iT;clear hl hs;walk_at "mit"
def tR (X:Nat->Nat->Int)(n g:Nat)(a:gx):Bool:=decide (X (n-a.b) a.s+a.t=X n g)
theorem Wj {m n g:Nat}(hn:n<m)(hg:g<mv){cs:List gx}(hc:∀a∈cs,a.b<=n/\a.s<mv):lF [.lst (dB mv m X),.lst (cs.map c9),.int (g:Int),.int (n:Int)]=U (.bl (cs.any (tR X n g))):=by
 have lp:∀(bs:List gx) (ϛ:D) (x4:Option D),(∀a∈bs,a.b<=n/\a.s<mv)->(bs.any (tR X n g)=Â/\gX (gV 4) fm (bs.map c9) [sL (dB mv m X),U ϛ,sI (g:Int),sI (n:Int),x4]=U (.rt (.bl Â)))\/(bs.any (tR X n g)=Ã/\∃y4,gX (gV 4) fm (bs.map c9) [sL (dB mv m X),U ϛ,sI (g:Int),sI (n:Int),x4]=U (.nx [sL (dB mv m X),U ϛ,sI (g:Int),sI (n:Int),y4])):=by
  intro bs ϛ;induction bs with
  |nil=>exactλx4 _=>.inr ⟨rfl,x4,rfl⟩
  |cons a bs ih=>
   intro x4 hb;obtain⟨h1,h2⟩:=hb a cg;have i1:=ud (n:=mv) (X:=X) (i:=n-a.b) (m:=m) (by omega);have e:((n-a.b:Nat):Int)=(n:Int)-(a.b:Int):=by omega
   rw[e]at i1;have i2:=Eu (f:=X (n-a.b)) h2;have i3:=ud (n:=mv) (X:=X) (i:=n) (m:=m) hn;have i4:=Eu (f:=X n) hg;have f1:=fs a;have f2:=ft a;have f3:=fb a;have eq:ga Ã (.int (X (n-a.b) a.s+a.t)) (.int (X n g))=U (.bl (tR X n g a)):=(ul _ _).trans (by rw[if_neg (by decide)];rfl);have step:fm [sL (dB mv m X),U ϛ,sI (g:Int),sI (n:Int),U (c9 a)]=if tR X n g a=Â then U (.rt (.bl Â))else U (.nx [sL (dB mv m X),U ϛ,sI (g:Int),sI (n:Int),U (c9 a)]):=by generalize tR X n g a=bb,dB mv m X=rs,eU mv (X (n-a.b))=v1,eU mv (X n)=v2,X (n-a.b) a.s=w1 at *;generalize X n g=w2 at *;unfold fm;clear ih hb h1 h2 e hn hg hc;cases bb<;>walk_at "mit"
   have Ai:gX (gV 4) fm ((a::bs).map c9) [sL (dB mv m X),U ϛ,sI (g:Int),sI (n:Int),x4]=(fm [sL (dB mv m X),U ϛ,sI (g:Int),sI (n:Int),U (c9 a)]).bind λo=>match o with
     |.nx ρ'=>gX (gV 4) fm (bs.map c9) ρ'
     |.ct ρ'=>gX (gV 4) fm (bs.map c9) ρ'
     |.bk ρ'=>U (.nx ρ')
     |.rt d=>U (.rt d):=rfl
   rw[Ai,step,iA];cases Rk:tR X n g a with
   |true=>exact .inl ⟨rfl,rfl⟩
   |false=>rw[if_neg (by decide)];exact ih (U (c9 a)) λb Rf=>hb b (ck _ Rf)
 unfold lF;rcases lp cs (.lst (cs.map c9)) L hc with⟨h1,h2⟩|⟨h1,y4,h2⟩
 ·rw[h1];clear lp hc h1;generalize dB mv m X=rs,cs.map c9=cl at *;walk_at "mit"
 ·rw[h1];clear lp hc h1;generalize dB mv m X=rs,cs.map c9=cl at *;walk_at "mit"
theorem jj {α:Type}{g:D->L3.Env->Option L3.Env}{b:SF}(enc:α->D)(f:α->Bool)(I:L3.Env->Prop)(w:D):∀(xs:List α) (Z:L3.Env),I Z->(∀x∈xs,∀Z,I Z->∃ρ1,g (enc x) Z=U ρ1/\((f x=Â/\∃ρ2,b ρ1=U (.nx ρ2)/\I ρ2)\/(f x=Ã/\b ρ1=U (.rt w)))) ->
  (xs.all f=Â/\∃ρ',gX g b (xs.map enc) Z=U (.nx ρ')/\I ρ')\/(xs.all f=Ã/\gX g b (xs.map enc) Z=U (.rt w))
 |[],Z,h,_=>.inl ⟨rfl,Z,rfl,h⟩
 |x::xs,Z,h,st=>by
  obtain⟨ρ1,h1,h2⟩:=st x cg Z h;have Ai:gX g b ((x::xs).map enc) Z=(g (enc x) Z).bind λρ1=>(b ρ1).bind λo=>match o with
    |.nx ρ'=>gX g b (xs.map enc) ρ'
    |.ct ρ'=>gX g b (xs.map enc) ρ'
    |.bk ρ'=>U (.nx ρ')
    |.rt d=>U (.rt d):=rfl
  rw[Ai,h1,dN,fq];rcases h2 with⟨e,ρ2,h2,h3⟩|⟨e,h2⟩
  ·rw[h2,e];exact jj enc f I w xs ρ2 h3 λy hy=>st y (ck _ hy)
  ·rw[h2,e];exact .inr ⟨rfl,rfl⟩
def nR (J:List gx)(g:Nat):List gx:=J.filter λa=>decide (a.g=g)
def vO (J:List gx)(Ϝ:Nat->Int)(g:Nat):List gx:=(nR J g).filter λa=>decide (Ϝ a.s=Ϝ g)
theorem Ol (hl:J.length<=1000)(g:Nat):n4 4 "into" hX (cJ ns J) [.int (g:Int)]=sL (eK (ã J g)):=by rw[HD (by decide)];exact PY hl g
theorem US (hl:J.length<=1000)(g:Nat)(r:L3.Env)(h0:r[0]?.join=U (cJ ns J))(h5:r[5]?.join=sI (g:Int)):nV r=sL ((nR J g).map c9):=by
 have e:(nR J g).map c9=(J.zipIdx.filter λp=>decide (p.1.g=g)).map λp=>c9 p.1:=by unfold nR;rw[←j7 (λa:gx=>decide (a.g=g)) J 0,df];rfl
 rw[e];refine zt (λp:gx×Nat=>D.int (p.2:Int)) (λp=>c9 p.1) _ ?_ ?_ λp hp=>⟨_,rfl,?_⟩
 ·have e0:C 0 r=_:=h0;have e5:C 5 r=_:=h5;have:=Ol (ns:=ns) hl g;show((((C 0) r).bind λo=>((Ä (C 5) Å) r).bind λS=>n4 4 "into" hX o (S++[]))).bind _=_;unfold Ä Å;rw[e0,e5];simp only[dN,dA];rw[this];show U (eK (ã J g))=_;unfold eK ã;rw[df];rfl
 ·have:=wF (λp:gx×Nat=>decide (p.1.g=g)) J.zipIdx;rw[List.length_zipIdx]at this;omega
 ·have hp:=PR (cR.mp hp).1;have kU:iB r [0]=[U (cJ ns J)]:=by unfold iB;simp[h0]
  rw[kU];have i1:dX (.lst (J.map c9)) (.int (p.2:Int))=U (c9 p.1):=yc (by rw[dm,hp];rfl);have f1:=Kn ns J;generalize cJ ns J=net at *;clear kU h0 h5 hp hl e;walk_at "mit"
theorem Vl {g:Nat}(hl:J.length<=1000)(hs:∀a∈J,a.s<mv)(hg:g<mv)(r:L3.Env)(h4:r[4]?.join=sL (eU mv Ϝ))(h5:r[5]?.join=sI (g:Int))(h6:r[6]?.join=sL ((nR J g).map c9)):nU r=sL ((vO J Ϝ g).map c9):=by
 refine v6 c9 (λa=>decide (Ϝ a.s=Ϝ g)) c9 (nR J g) ?_ ?_ λa ha=>⟨_,rfl,?_,λ_=>rfl⟩
 ·have e6:C 6 r=_:=h6;unfold Ý;rw[e6];rfl
 ·have:=wF (λa:gx=>decide (a.g=g)) J;unfold nR;omega
 ·have kU:iB r [4,5]=[sL (eU mv Ϝ),sI (g:Int)]:=by unfold iB;simp[h4,h5]
  rw[kU];have i1:=Eu (f:=Ϝ) (hs a (cR.mp ha).1);have i2:=Eu (f:=Ϝ) hg;have f1:=fs a;have eq:=ul (neg:=false) (Ϝ a.s) (Ϝ g);rw[if_neg (by decide)]at eq;generalize eU mv Ϝ=vl,Ϝ a.s=w1,Ϝ g=w2 at *;clear hl hs hg h4 h5 h6 ha kU;walk_at "mit"
def yV (J:List gx)(X:Nat->Nat->Int)(Ϝ:Nat->Int)(ϙ c g:Nat):Bool:=(cv c).all λi=>(vO J Ϝ g).any (tR X (ϙ+i) g)
theorem Ř {m ϙ c:Nat}(hn:ns.length=mv)(hm:mv<=1000)(pA:m<=1000)(hl:J.length<=1000)(hs:∀a∈J,a.s<mv/\a.b<=ϙ)(h:ϙ+c<=m)(hc:1<=c):jD [cJ ns J,.lst (dB mv m X),.int (ϙ:Int),.int ((ϙ:Int)+(c:Int)-1),.lst (eU mv Ϝ)]=U (.bl ((cv mv).all (yV J X Ϝ ϙ c))):=by
 generalize hz:(ϙ:Int)+(c:Int)-1=z;have inner:∀(g:Nat),g<mv->∀x6 x8:Option D,(yV J X Ϝ ϙ c g=Â/\∃y8,gX (gV 8) fD ((cv c).map λ(i:Nat)=>D.int ((ϙ:Int)+(i:Int))) [U (cJ ns J),sL (dB mv m X),sI (ϙ:Int),sI z,sL (eU mv Ϝ),sI (g:Int),x6,sL ((vO J Ϝ g).map c9),x8]=U (.nx [U (cJ ns J),sL (dB mv m X),sI (ϙ:Int),sI z,sL (eU mv Ϝ),sI (g:Int),x6,sL ((vO J Ϝ g).map c9),y8]))\/(yV J X Ϝ ϙ c g=Ã/\gX (gV 8) fD ((cv c).map λ(i:Nat)=>D.int ((ϙ:Int)+(i:Int))) [U (cJ ns J),sL (dB mv m X),sI (ϙ:Int),sI z,sL (eU mv Ϝ),sI (g:Int),x6,sL ((vO J Ϝ g).map c9),x8]=U (.rt (.bl Ã))):=by
  intro g hg x6 x8;have:=jj (g:=gV 8) (b:=fD) (λ(i:Nat)=>D.int ((ϙ:Int)+(i:Int))) (λi=>(vO J Ϝ g).any (tR X (ϙ+i) g)) (λZ=>∃y8,Z=[U (cJ ns J),sL (dB mv m X),sI (ϙ:Int),sI z,sL (eU mv Ϝ),sI (g:Int),x6,sL ((vO J Ϝ g).map c9),y8]) (.bl Ã) (cv c) _ ⟨x8,rfl⟩ (by
   rintro i hi Z ⟨y8,rfl⟩;have hi:=cD.mp hi;refine⟨_,rfl,?_⟩;have k1:=Wj (mv:=mv) (m:=m) (n:=ϙ+i) (g:=g) (X:=X) (by omega) hg (cs:=vO J Ϝ g) (λa ha=>by have:=hs a (cR.mp (cR.mp ha).1).1;exact⟨by omega,this.1⟩);have e:((ϙ+i:Nat):Int)=(ϙ:Int)+(i:Int):=by omega
   rw[e]at k1;cases hb:(vO J Ϝ g).any (tR X (ϙ+i) g)with
   |true=>refine .inl ⟨rfl,[U (cJ ns J),sL (dB mv m X),sI (ϙ:Int),sI z,sL (eU mv Ϝ),sI (g:Int),x6,sL ((vO J Ϝ g).map c9),sI ((ϙ:Int)+(i:Int))],?_,_,rfl⟩;rw[hb]at k1;show fD [U (cJ ns J),sL (dB mv m X),sI (ϙ:Int),sI z,sL (eU mv Ϝ),sI (g:Int),x6,sL ((vO J Ϝ g).map c9),sI ((ϙ:Int)+(i:Int))]=_;generalize cJ ns J=net,dB mv m X=rs,(vO J Ϝ g).map c9=cl,eU mv Ϝ=vl at *;unfold fD;clear hz hs h hc hl hm pA hn e hi hb hg;walk_at "mit"
   |false=>refine .inr ⟨rfl,?_⟩;rw[hb]at k1;show fD [U (cJ ns J),sL (dB mv m X),sI (ϙ:Int),sI z,sL (eU mv Ϝ),sI (g:Int),x6,sL ((vO J Ϝ g).map c9),sI ((ϙ:Int)+(i:Int))]=_;generalize cJ ns J=net,dB mv m X=rs,(vO J Ϝ g).map c9=cl,eU mv Ϝ=vl at *;unfold fD;clear hz hs h hc hl hm pA hn e hi hb hg;walk_at "mit")
  rcases this with⟨h1,ρ',h2,y8,rfl⟩|⟨h1,h2⟩
  ·exact .inl ⟨h1,y8,h2⟩
  ·exact .inr ⟨h1,h2⟩
 have er:rZ [.int (ϙ:Int),.int (z+1)]=U ((cv c).map λ(i:Nat)=>D.int ((ϙ:Int)+(i:Int))):=by rw[u8 (by omega) (by omega) (by omega) (by omega),show(z+1-(ϙ:Int)).toNat=c by omega];rfl
 have outer:=jj (g:=gV 5) (b:=gC) (λ(g:Nat)=>D.int (g:Int)) (yV J X Ϝ ϙ c) (λZ=>∃y5 y6 y7 y8,Z=[U (cJ ns J),sL (dB mv m X),sI (ϙ:Int),sI z,sL (eU mv Ϝ),y5,y6,y7,y8]) (.bl Ã) (cv mv) [U (cJ ns J),sL (dB mv m X),sI (ϙ:Int),sI z,sL (eU mv Ϝ),L,L,L,L] ⟨_,_,_,_,rfl⟩ (by
  rintro g hg Z ⟨y5,y6,y7,y8,rfl⟩;have hg:=cD.mp hg;refine⟨_,rfl,?_⟩;have q2:=US (ns:=ns) (J:=J) hl g [U (cJ ns J),sL (dB mv m X),sI (ϙ:Int),sI z,sL (eU mv Ϝ),sI (g:Int),y6,y7,y8] rfl rfl;have q1:=Vl (J:=J) (mv:=mv) (Ϝ:=Ϝ) hl (λa ha=>(hs a ha).1) hg [U (cJ ns J),sL (dB mv m X),sI (ϙ:Int),sI z,sL (eU mv Ϝ),sI (g:Int),sL ((nR J g).map c9),y7,y8] rfl rfl rfl;rcases inner g hg (sL ((nR J g).map c9)) y8 with⟨h1,z8,h2⟩|⟨h1,h2⟩
  ·refine .inl ⟨h1,[U (cJ ns J),sL (dB mv m X),sI (ϙ:Int),sI z,sL (eU mv Ϝ),sI (g:Int),sL ((nR J g).map c9),sL ((vO J Ϝ g).map c9),z8],?_,_,_,_,_,rfl⟩;show gC [U (cJ ns J),sL (dB mv m X),sI (ϙ:Int),sI z,sL (eU mv Ϝ),sI (g:Int),y6,y7,y8]=_;generalize cJ ns J=net,dB mv m X=rs,(vO J Ϝ g).map c9=cl,(nR J g).map c9=il,eU mv Ϝ=vl,((cv c).map λ(i:Nat)=>D.int ((ϙ:Int)+(i:Int)))=rg at *;unfold gC;clear hz hs h hc hl hm pA hn hg h1 inner;walk_at "mit"
  ·refine .inr ⟨h1,?_⟩;show gC [U (cJ ns J),sL (dB mv m X),sI (ϙ:Int),sI z,sL (eU mv Ϝ),sI (g:Int),y6,y7,y8]=_;generalize cJ ns J=net,dB mv m X=rs,(vO J Ϝ g).map c9=cl,(nR J g).map c9=il,eU mv Ϝ=vl,((cv c).map λ(i:Nat)=>D.int ((ϙ:Int)+(i:Int)))=rg at *;unfold gC;clear hz hs h hc hl hm pA hn hg h1 inner;walk_at "mit")
 have Qw:jS [.int (mv:Int)]=U ((cv mv).map λ(g:Nat)=>D.int (g:Int)):=by rw[xw (by omega) (by omega),fC];simp[lI]
 have f1:=vg ns J;have l1:ee [.lst ns]=sI (mv:Int):=by rw[ya,hn]
 rcases outer with⟨h1,ρ',h2,y5,y6,y7,y8,rfl⟩|⟨h1,h2⟩
 ·rw[h1];generalize cJ ns J=net,dB mv m X=rs,eU mv Ϝ=vl,((cv mv).map λ(g:Nat)=>D.int (g:Int))=rg at *;unfold jD;clear hz hs h hc hl hm pA hn h1 inner er;walk_at "mit"
 ·rw[h1];generalize cJ ns J=net,dB mv m X=rs,eU mv Ϝ=vl,((cv mv).map λ(g:Nat)=>D.int (g:Int))=rg at *;unfold jD;clear hz hs h hc hl hm pA hn h1 inner er;walk_at "mit"
structure æ (J:List gx)(mv:Nat)(X:Nat->Nat->Int)(c f:Nat)(Ϝ:Nat->Int):Prop where
 w:∀i,i<dep J->∀g,g<mv->X (f+i+c) g-X (f+i) g=Ϝ g
 a:∀a∈J,Ϝ a.s<=Ϝ a.g
 c:∀g,g<mv->∀n,f+dep J<=n->n<f+dep J+c->∃a∈J,a.g=g/\Ϝ a.s=Ϝ g/\X (n-a.b) a.s+a.t=X n g
theorem æ.iff {c f:Nat}:æ J mv X c f Ϝ↔(((cv (dep J)).all λi=>decide (∀g,g<mv->X (f+i+c) g-X (f+i) g=Ϝ g))=Â/\(J.all λa=>decide (Ϝ a.s<=Ϝ a.g))=Â/\(cv mv).all (yV J X Ϝ (f+dep J) c)=Â):=by
 constructor
 ·intro h;refine⟨dE.mpr λi hi=>decide_eq_true (h.w i (cD.mp hi)),dE.mpr λa ha=>decide_eq_true (h.a a ha),dE.mpr λg hg=>dE.mpr λi hi=>?_⟩;have hi:=cD.mp hi;obtain⟨a,ha,h1,h2,h3⟩:=h.c g (cD.mp hg) (f+dep J+i) (by omega) (by omega);exact ny.mpr ⟨a,cR.mpr ⟨cR.mpr ⟨ha,decide_eq_true h1⟩,decide_eq_true h2⟩,decide_eq_true h3⟩
 ·rintro⟨h1,h2,h3⟩;refine⟨λi hi=>of_decide_eq_true (dE.mp h1 i (cD.mpr hi)),λa ha=>of_decide_eq_true (dE.mp h2 a ha),λg hg n Ry yZ=>?_⟩;have:=dE.mp (dE.mp h3 g (cD.mpr hg)) (n-(f+dep J)) (cD.mpr (by omega));rw[show f+dep J+(n-(f+dep J))=n by omega]at this;obtain⟨a,ha,h3⟩:=ny.mp this;obtain⟨ha,h2⟩:=cR.mp ha;obtain⟨ha,h1⟩:=cR.mp ha;exact⟨a,ha,of_decide_eq_true h1,of_decide_eq_true h2,of_decide_eq_true h3⟩
theorem ŗ {m c f:Nat}(ok:gY mv J)(hn:ns.length=mv)(pA:m<=1000)(hc:1<=c)(h:f+dep J+c<=m):∃b,oZ [cJ ns J,.lst (dB mv m X),.tup [.int (c:Int),.int (f:Int),.lst (eU mv Ϝ)]]=U (.bl b)/\(b=Â↔æ J mv X c f Ϝ):=by
 have hl:=ok.len;have hm:=ok.le;have hd:=HC J;have hs:∀a∈J,a.s<mv/\a.g<mv:=λa ha=>⟨(ok.right a ha).s,(ok.right a ha).g⟩;have g1:=Zk (mv:=mv) (m:=m) (f:=f) (n:=dep J) (c:=c) (X:=X) (Ϝ:=Ϝ) (by omega) pA hd h;have g2:=Zl (ns:=ns) (J:=J) (Ϝ:=Ϝ) (by omega) hs;have g3:=Ř (ns:=ns) (J:=J) (mv:=mv) (m:=m) (ϙ:=f+dep J) (c:=c) (X:=X) (Ϝ:=Ϝ) hn (by omega) pA (by omega) (λa ha=>⟨(hs a ha).1,by have:=vn ha;omega⟩) h hc;have mb:=Hm (ns:=ns) (J:=J) (by omega);have f1:=vg ns J;have l1:ee [.lst ns]=sI (mv:Int):=by rw[ya,hn]
 have l2:ee [.lst (eU mv Ϝ)]=sI (mv:Int):=by rw[ya,OX]
 have l3:ee [.lst (dB mv m X)]=sI (m:Int):=by rw[ya,NI]
 rw[æ.iff];generalize ((cv (dep J)).all λi=>decide (∀g,g<mv->X (f+i+c) g-X (f+i) g=Ϝ g))=b1,(J.all λa=>decide (Ϝ a.s<=Ϝ a.g))=b2,(cv mv).all (yV J X Ϝ (f+dep J) c)=b3 at *;refine⟨b1&&b2&&b3,?_,by cases b1<;>cases b2<;>cases b3<;>simp⟩;have e1:((f+dep J:Nat):Int)=(f:Int)+(dep J:Int):=by omega
 rw[e1]at g3;have c1:¬(c:Int)<1:=by omega
 have c2:¬(f:Int)<0:=by omega
 have c3:¬(m:Int)<(f:Int)+(dep J:Int)+(c:Int):=by omega
 generalize (dep J:Int)=dd,cJ ns J=net,dB mv m X=rs,eU mv Ϝ=vl at *;have p0:dX (.tup [.int (c:Int),.int (f:Int),.lst vl]) (.int 0)=sI (c:Int):=rfl;have p1:dX (.tup [.int (c:Int),.int (f:Int),.lst vl]) (.int 1)=sI (f:Int):=rfl;have p2:dX (.tup [.int (c:Int),.int (f:Int),.lst vl]) (.int 2)=sL vl:=rfl;have p2t:Jr (.tup [.int (c:Int),.int (f:Int),.lst vl]) (.int 2)=sL vl:=rfl;unfold oZ;clear hl hm hd hs e1 h hc pA hn ok;cases b1 with
 |false=>walk_at "mit"
 |true=>
  cases b2 with
  |false=>walk_at "mit"
  |true=>walk_at "mit"
theorem Hn (ok:gY mv J){P:Nat->Nat->Prop}(st:∀i g,(∀j,j<i->∀x,P j x)->(∀a∈J,a.g=g->a.b=0->P i a.s)->P i g):∀i g,P i g:=by
 obtain⟨rank,hr⟩:=ok.rank;intro i;induction i using tq with
 |ind i ih=>
  have inner:∀k g,rank g=k->P i g:=by
   intro k;induction k using tq with
   |ind k Jp=>intro g hg;refine st i g (λj hj x=>ih j hj x) λa ha pf hb=>?_;have:=hr a ha hb;exact Jp (rank a.s) (by rw[←hg,←pf];exact this) a.s rfl
  exactλg=>inner _ g rfl
theorem Nd {α β:Type}{f f':β->α->β}:∀(xs:List α) (w:β),(∀a∈xs,∀w,f w a=f' w a)->xs.foldl f w=xs.foldl f' w
 |[],_,_=>rfl
 |x::xs,w,h=>by show xs.foldl f (f w x)=xs.foldl f' (f' w x);rw[h x cg,Nd xs _ λa ha=>h a (ck _ ha)]
theorem NW {α:Type}(F:α->Int):∀(xs:List α) (w:T),(∃y,xs.foldl (λw a=>mx w (U (F a))) w=U y/\(∀a∈xs,F a<=y)/\(∀z,w=U z->z<=y)/\((∃a∈xs,F a=y)\/w=U y))\/(xs=[]/\w=L)
 |[],L=>.inr ⟨rfl,rfl⟩
 |[],U z=>.inl ⟨z,rfl,λ_ h=>(by cases h),λ_ h=>(by cases h;exact sv _),.inr rfl⟩
 |x::xs,w=>by
  rcases NW F xs (mx w (U (F x)))with⟨y,h1,h2,h3,h4⟩|⟨_,h⟩
  ·refine .inl ⟨y,h1,?_,?_,?_⟩
   ·intro a ha;rcases cu.mp ha with rfl|ha
    ·cases w with
     |none=>exact h3 _ rfl
     |some z=>
      have:=h3 (if F a > z then F a else z) rfl
      split at this<;>omega
    ·exact h2 a ha
   ·intro z hz;subst hz;have:=h3 (if F x > z then F x else z) rfl
    split at this<;>omega
   ·rcases h4 with⟨a,ha,h4⟩|h4
    ·exact .inl ⟨a,ck _ ha,h4⟩
    ·cases w with
     |none=>exact .inl ⟨x,cg,by simpa[mx]using h4⟩
     |some z=>
      have h5:(if F x > z then F x else z)=y:=by simpa[mx]using h4
      split at h5
      ·exact .inl ⟨x,cg,h5⟩
      ·exact .inr (by rw[h5])
  ·cases w<;>simp[mx]at h
structure Mx (J:List gx)(mv lo hi:Nat)(V:Nat->Nat->Int):Prop where
 ge:∀i,lo<=i->i<hi->∀a∈J,V (i-a.b) a.s+a.t<=V i a.g
 at_:∀i,lo<=i->i<hi->∀g,g<mv->∃a∈J,a.g=g/\V (i-a.b) a.s+a.t=V i g
theorem ó.mx {past:Nat->Nat->T}(ok:gY mv J)(h:ó J mv (dep J) rounds past (λ_ _=>L) Ϛ)(hp:∀i,i<dep J->∀g,g<mv->∃v,past i g=U v)(tK:∀g,g<mv->∃a∈J,a.g=g) :
  ∃V:Nat->Nat->Int,(∀i,i<dep J+rounds->∀g,g<mv->Ϛ i g=U (V i g))/\Mx J mv (dep J) (dep J+rounds) V:=by
 have hs:∀i g,i<dep J+rounds->g<mv->∃v,Ϛ i g=U v:=by
  refine Hn ok λi g Fu Jo hi hg=>?_;by_cases hd:i<dep J
  ·rw[h.past i hd g hg];exact hp i hd g hg
  ·have:=h.rc (i-dep J) (by omega) g hg;rw[show dep J+(i-dep J)=i by omega]at this;rw[this];obtain⟨a,ha,pf⟩:=tK g hg;have hb:=vn ha;have:∃v,Ϛ (i-a.b) a.s=U v:=by
    by_cases xE:a.b=0
    ·have:=Jo a ha pf xE hi (ok.right a ha).s;rwa[xE,ma]
    ·exact Fu (i-a.b) (by omega) a.s (by omega) (ok.right a ha).s
   obtain⟨v,hv⟩:=this;obtain⟨y,hy,_⟩:=O3 (λa:gx=>lt a.t (Ϛ (i-a.b) a.s)) (v:=v+a.t) (J.filter λa=>decide (a.g=g)) L (.inr ⟨a,cR.mpr ⟨ha,decide_eq_true pf⟩,v+a.t,by show lt a.t (Ϛ (i-a.b) a.s)=_;rw[hv];rfl,sv _⟩);exact⟨y,hy⟩
 refine⟨λi g=>(Ϛ i g).getD 0,λi hi g hg=>?_,?_⟩
 ·obtain⟨v,hv⟩:=hs i g hi hg;show _=U ((Ϛ i g).getD 0);rw[hv];rfl
 ·have key:∀i,dep J<=i->i<dep J+rounds->∀g,g<mv->(∀a∈J,a.g=g->(Ϛ (i-a.b) a.s).getD 0+a.t<=(Ϛ i g).getD 0)/\∃a∈J,a.g=g/\(Ϛ (i-a.b) a.s).getD 0+a.t=(Ϛ i g).getD 0:=by
   intro i hi1 D1 g hg;have rc:=h.rc (i-dep J) (by omega) g hg;rw[show dep J+(i-dep J)=i by omega]at rc;have e:tm J Ϛ i g L=(J.filter λa=>decide (a.g=g)).foldl (λw a=>My.mx w (U ((Ϛ (i-a.b) a.s).getD 0+a.t))) L:=by unfold tm;refine Nd _ _ λa ha w=>?_;have ha:=(cR.mp ha).1;have hb:=vn ha;obtain⟨v,hv⟩:=hs (i-a.b) a.s (by omega) (ok.right a ha).s;rw[hv];rfl
   rw[e]at rc;rcases NW (λa:gx=>(Ϛ (i-a.b) a.s).getD 0+a.t) (J.filter λa=>decide (a.g=g)) L with⟨y,h1,h2,_,h4⟩|⟨h1,_⟩
   ·rw[h1]at rc;rw[rc];refine⟨λa ha pf=>h2 a (cR.mpr ⟨ha,decide_eq_true pf⟩),?_⟩;rcases h4 with⟨a,ha,h4⟩|h4
    ·obtain⟨ha,pf⟩:=cR.mp ha;exact⟨a,ha,of_decide_eq_true pf,h4⟩
    ·cases h4
   ·obtain⟨a,ha,pf⟩:=tK g hg;have:a∈J.filter λa=>decide (a.g=g):=cR.mpr ⟨ha,decide_eq_true pf⟩;rw[h1]at this;cases this
  exact⟨λi h1 h2 a ha=>(key i h1 h2 a.g (ok.right a ha).g).1 a ha rfl,λi h1 h2 g hg=>(key i h1 h2 g hg).2⟩
variable {V:Nat->Nat->Int}
theorem Mx.on {hi:Nat}(h:Mx J mv (dep J) (dep J+hi) V):Mx J mv (dep J) hi λr g=>V (dep J+r) g:=by
 refine⟨λi h1 h2 a ha=>?_,λi h1 h2 g hg=>?_⟩
 ·have hb:=vn ha;have:=h.ge (dep J+i) (by omega) (by omega) a ha;rw[show dep J+i-a.b=dep J+(i-a.b)by omega]at this;exact this
 ·obtain⟨a,ha,h3,h4⟩:=h.at_ (dep J+i) (by omega) (by omega) g hg;have hb:=vn ha;rw[show dep J+i-a.b=dep J+(i-a.b)by omega]at h4;exact⟨a,ha,h3,h4⟩
variable {R:Nat}
theorem æ.ever {c f:Nat}(ok:gY mv J)(hM:Mx J mv (dep J) R X)(hA:æ J mv X c f Ϝ)(hc:1<=c) :
  ∀n g,g<mv->f<=n->(n+c<R->X (n+c) g=X n g+Ϝ g)/\(f+dep J<=n->n<R->∃a∈J,a.g=g/\Ϝ a.s=Ϝ g/\X (n-a.b) a.s+a.t=X n g):=by
 refine Hn ok λn g Fu Jo hg hf=>?_;have LK:f+dep J<=n->n<R->∃a∈J,a.g=g/\Ϝ a.s=Ϝ g/\X (n-a.b) a.s+a.t=X n g:=by
  intro h1 h2;by_cases h:n<f+dep J+c
  ·exact hA.c g hg n h1 h
  ·obtain⟨p1,p2⟩:=Fu (n-c) (by omega) g hg (by omega);obtain⟨a,ha,q1,q2,q3⟩:=p2 (by omega) (by omega);have hb:=vn ha;have e1:=p1 (by omega);have e2:=(Fu (n-c-a.b) (by omega) a.s (ok.right a ha).s (by omega)).1 (by omega);rw[show n-c-a.b+c=n-a.b by omega]at e2;rw[show n-c+c=n by omega]at e1;exact⟨a,ha,q1,q2,by omega⟩
 refine⟨λhR=>?_,LK⟩;by_cases h:n<f+dep J
 ·have:=hA.w (n-f) (by omega) g hg;rw[show f+(n-f)=n by omega]at this;omega
 ·have stp:∀a∈J,a.g=g->X (n+c-a.b) a.s=X (n-a.b) a.s+Ϝ a.s:=by
   intro a ha pf;have hb:=vn ha;have:X (n-a.b+c) a.s=X (n-a.b) a.s+Ϝ a.s:=by
    by_cases xE:a.b=0
    ·rw[xE,ma];exact(Jo a ha pf xE (ok.right a ha).s hf).1 hR
    ·exact(Fu (n-a.b) (by omega) a.s (ok.right a ha).s (by omega)).1 (by omega)
   rw[←this,show n+c-a.b=n-a.b+c by omega]
  obtain⟨a,ha,p1,p2⟩:=hM.at_ (n+c) (by omega) hR g hg;obtain⟨b,hb,q1,q2,q3⟩:=LK (by omega) (by omega);have s1:=stp a ha p1;have s2:=stp b hb q1;have g1:=hM.ge n (by omega) (by omega) a ha;have g2:=hM.ge (n+c) (by omega) hR b hb;have l1:=hA.a a ha;rw[p1]at g1 l1;rw[q1]at g2;omega
def R5 (Z:L3.Env):Nat:=match Z with
 |[_,_,_,_,U (.int d)]=>d.toNat
 |_=>0
def Af (mv:Nat)(X:Nat->Nat->Int)(c:Nat)(Ϝ:Nat->Int)(n:Nat):Prop:=∀g,g<mv->X (n+c) g-X n g=Ϝ g
instance (mv:Nat) (X:Nat->Nat->Int) (c:Nat) (Ϝ:Nat->Int) (n:Nat):Decidable (Af mv X c Ϝ n):=by unfold Af;infer_instance
theorem Vm {m k c:Nat}(hm:mv<=1000)(pA:m<=1000)(h:k+c<m):∃f:Nat,iS [.lst (dB mv m X),.int (k:Int),.int (c:Int),.lst (eU mv Ϝ)]=sI (f:Int)/\f<=k/\(∀n,f<=n->n<k->Af mv X c Ϝ n)/\(f=0\/¬Af mv X c Ϝ (f-1)):=by
 have GG:∀d:Nat,d<=k->ß (tb (e2 wM (C 4) (eC (.int 0)))) (tb (e2 (ga Ã) (cl kh (Ä (C 0) (Ä (e2 nc (C 4) (eC (.int 1))) (Ä (C 2) Å)))) (C 3))) [sL (dB mv m X),sI (k:Int),sI (c:Int),sL (eU mv Ϝ),sI (d:Int)]=U (decide (0<d/\Af mv X c Ϝ (d-1))):=by
  intro d hd;by_cases h0:d=0
  ·subst h0;rw[decide_eq_false (λz=>absurd z.1 (by omega))];have e0:((0:Nat):Int)=0:=rfl;rw[e0];generalize dB mv m X=rs,eU mv Ϝ=vl at *;clear hm pA h hd e0;walk_at "mit"
  ·have g1:=KQ (mv:=mv) (m:=m) (f:=d-1) (c:=c) (X:=X) hm (by omega);have ev:=Lp Ã mv (λg=>X (d-1+c) g-X (d-1) g) Ϝ;rw[if_neg (by decide)]at ev;have e1:((d-1:Nat):Int)=(d:Int)-1:=by omega
   rw[e1]at g1;have C2:decide (0<d/\Af mv X c Ϝ (d-1))=decide (∀g,g<mv->X (d-1+c) g-X (d-1) g=Ϝ g):=by apply decide_eq_decide.mpr;exact⟨λz=>z.2,λz=>⟨by omega,z⟩⟩
   rw[C2];have gt:(d:Int) > 0:=by omega
   generalize decide (∀g,g<mv->X (d-1+c) g-X (d-1) g=Ϝ g)=bb,(eU mv λg=>X (d-1+c) g-X (d-1) g)=v,dB mv m X=rs,eU mv Ϝ=vl at *;clear hm pA h hd e1 C2;walk_at "mit"
 obtain⟨ρ',h1,⟨d,rfl,hd,hI⟩,hc⟩:=jv (c:=ß (tb (e2 wM (C 4) (eC (.int 0)))) (tb (e2 (ga Ã) (cl kh (Ä (C 0) (Ä (e2 nc (C 4) (eC (.int 1))) (Ä (C 2) Å)))) (C 3)))) (b:=jN)
  (λZ=>∃d:Nat,Z=[sL (dB mv m X),sI (k:Int),sI (c:Int),sL (eU mv Ϝ),sI (d:Int)]/\d<=k/\∀n,d<=n->n<k->Af mv X c Ϝ n) R5 (by
   rintro Z ⟨d,rfl,hd,hI⟩;refine⟨_,GG d hd,λht=>?_⟩;obtain⟨t1,t2⟩:=of_decide_eq_true ht;refine⟨[sL (dB mv m X),sI (k:Int),sI (c:Int),sL (eU mv Ϝ),sI ((d-1:Nat):Int)],.inl ?_,⟨d-1,rfl,by omega,λn Ry yZ=>?_⟩,?_⟩
   ·have e1:((d-1:Nat):Int)=(d:Int)-1:=by omega
    rw[e1];generalize dB mv m X=rs,eU mv Ϝ=vl at *;unfold jN AW i2;clear hm pA h hd e1 hI GG ht t1 t2;walk_at "mit"
   ·by_cases he:n=d-1
    ·rw[he];exact t2
    ·exact hI n (by omega) yZ
   ·show((d-1:Nat):Int).toNat<(d:Int).toNat
    omega) vN [sL (dB mv m X),sI (k:Int),sI (c:Int),sL (eU mv Ϝ),sI (k:Int)] ⟨k,rfl,cH _,λn h1 h2=>by omega⟩ (ON (by show(k:Int).toNat<1048576;omega))
 refine⟨d,?_,hd,hI,?_⟩
 ·unfold iS qV;clear GG hc;generalize (ß (tb (e2 wM (C 4) (eC (.int 0)))) (tb (e2 (ga Ã) (cl kh (Ä (C 0) (Ä (e2 nc (C 4) (eC (.int 1))) (Ä (C 2) Å)))) (C 3))))=cc,dB mv m X=rs,eU mv Ϝ=vl at *;clear hm pA h hd hI;walk_at "mit"
 ·rw[GG d hd]at hc;have hc:¬(0<d/\Af mv X c Ϝ (d-1)):=by simpa using hc
  by_cases h0:d=0
  ·exact .inl h0
  ·exact .inr λz=>hc ⟨by omega,z⟩
theorem Ŗ (neg:Bool)(F:List Nat):ga neg (.lst (eK F)) (.lst [])=U (.bl (if neg then !decide (F=[])else decide (F=[]))):=by
 have:=(El Ei).eq (by decide) (neg:=neg) (F.map λ(x:Nat)=>(x:Int)) [];have e:(El Ei).enc (F.map λ(x:Nat)=>(x:Int))=.lst (eK F):=by show D.lst ((F.map λ(x:Nat)=>(x:Int)).map D.int)=_;rw[df];rfl
 rw[e]at this;have hd:decide ((F.map λ(x:Nat)=>(x:Int))=[])=decide (F=[]):=decide_eq_decide.mpr (by simp);rw[hd]at this;exact this
theorem Zm (ok:gY mv J)(hn:ns.length=mv)(tK:∀g,g<mv->∃a∈J,a.g=g):kl [cJ ns J]=U .non:=by
 have hl:=ok.len;have hm:=ok.le;have lp:=jj (g:=gV 1) (b:=iR) (λ(g:Nat)=>D.int (g:Int)) (λ_=>Â) (λZ=>∃y1,Z=[U (cJ ns J),y1]) (.bl Ã) (cv mv) [U (cJ ns J),L] ⟨_,rfl⟩ (by
  rintro g hg Z ⟨y1,rfl⟩;have hg:=cD.mp hg;refine⟨_,rfl,.inl ⟨rfl,[U (cJ ns J),sI (g:Int)],?_,_,rfl⟩⟩;show iR [U (cJ ns J),sI (g:Int)]=_;have i1:=Ol (ns:=ns) (J:=J) (by omega) g;have ne:ã J g≠[]:=by obtain⟨a,ha,pf⟩:=tK g hg;obtain⟨i,hi,e⟩:=iN.mp ha;intro z;have:i∈ã J g:=cO.mpr ⟨(a,i),cR.mpr ⟨sA.mpr (by rw[←e];exact dh hi),decide_eq_true pf⟩,rfl⟩;rw[z]at this;cases this
  have ev:=Ŗ Ã (ã J g);rw[if_neg (by decide),decide_eq_false ne]at ev;generalize eK (ã J g)=is,cJ ns J=net at *;unfold iR;clear hl hm hg ne tK ok hn;walk_at "mit")
 rcases lp with⟨_,ρ',h2,y1,rfl⟩|⟨h1,_⟩
 ·have Qw:jS [.int (mv:Int)]=U ((cv mv).map λ(g:Nat)=>D.int (g:Int)):=by rw[xw (by omega) (by omega),fC];simp[lI]
  have f1:=vg ns J;have l1:ee [.lst ns]=sI (mv:Int):=by rw[ya,hn]
  generalize ((cv mv).map λ(g:Nat)=>D.int (g:Int))=rg,cJ ns J=net at *;unfold kl;clear hl hm tK ok hn;walk_at "mit"
 ·have:(cv mv).all (λ_=>Â)=Â:=by simp
  rw[this]at h1;cases h1
theorem Nf {α:Type}{g:D->L3.Env->Option L3.Env}{b:SF}(enc:α->D)(I:L3.Env->Prop)(N:α->Prop)(R:α->D->Prop):∀(xs:List α) (Z:L3.Env),I Z->(∀x∈xs,∀Z,I Z->∃ρ1,g (enc x) Z=U ρ1/\((N x/\∃ρ2,b ρ1=U (.nx ρ2)/\I ρ2)\/∃w,R x w/\b ρ1=U (.rt w))) ->
  ((∀x∈xs,N x)/\∃ρ',gX g b (xs.map enc) Z=U (.nx ρ')/\I ρ')\/∃pre x post w,xs=pre++x::post/\(∀y∈pre,N y)/\R x w/\gX g b (xs.map enc) Z=U (.rt w)
 |[],Z,h,_=>.inl ⟨λ_ h=>(by cases h),Z,rfl,h⟩
 |x::xs,Z,h,st=>by
  obtain⟨ρ1,h1,h2⟩:=st x cg Z h;have Ai:gX g b ((x::xs).map enc) Z=(g (enc x) Z).bind λρ1=>(b ρ1).bind λo=>match o with
    |.nx ρ'=>gX g b (xs.map enc) ρ'
    |.ct ρ'=>gX g b (xs.map enc) ρ'
    |.bk ρ'=>U (.nx ρ')
    |.rt d=>U (.rt d):=rfl
  rw[Ai,h1,dN];rcases h2 with⟨e,ρ2,h2,h3⟩|⟨w,e,h2⟩
  ·rw[h2,dN];rcases Nf enc I N R xs ρ2 h3 λy hy=>st y (ck _ hy)with⟨a1,ρ',a2,a3⟩|⟨pre,z,post,w,a1,a2,a3,a4⟩
   ·refine .inl ⟨λy hy=>?_,ρ',a2,a3⟩;rcases cu.mp hy with rfl|hy
    ·exact e
    ·exact a1 y hy
   ·refine .inr ⟨x::pre,z,post,w,by rw[a1];rfl,λy hy=>?_,a3,a4⟩;rcases cu.mp hy with rfl|hy
    ·exact e
    ·exact a2 y hy
  ·rw[h2];exact .inr ⟨[],x,xs,w,rfl,λ_ h=>(by cases h),e,rfl⟩
theorem UH {n:Nat}{pre post:List Nat}{x:Nat}(h:cv n=pre++x::post):x<n/\∀y,y<x->y∈pre:=by
 have hl:pre.length=x:=by
  have:=congrArg (λl=>l[pre.length]?) h;simp only[iM (cH _),Nat.sub_self,List.getElem?_cons_zero]at this;have h2:pre.length<n:=by have:=congrArg mU h;simp at this;omega
  rw[fY h2]at this;simpa using this
 refine⟨cD.mp (by rw[h];simp),λy hy=>?_⟩;have:(cv n)[y]?=(pre++x::post)[y]?:=by rw[h]
 rw[fE (by omega),fY (by have:=congrArg mU h;simp at this;omega)]at this;exact fF.mpr ⟨y,this.symm⟩
def iC (X:Nat->Nat->Int)(c n g:Nat):Int:=X (n+c) g-X n g
structure Đ (J:List gx)(mv ϙ:Nat)(X:Nat->Nat->Int)(c f:Nat):Prop where
 c1:1<=c
 cS:c<=ϙ
 ag:æ J mv X c (ϙ-c) (iC X c (ϙ-c))
 no:∀c',1<=c'->c'<c->¬æ J mv X c' (ϙ-c') (iC X c' (ϙ-c'))
 fS:f<=ϙ-c
 gr:∀n,f<=n->n<ϙ-c->Af mv X c (iC X c (ϙ-c)) n
 st:f=0\/¬Af mv X c (iC X c (ϙ-c)) (f-1)
def vP (c f:Int)(ls:List D):D:=.tup [.int c,.int f,.lst ls]
theorem Zn {wd:D}(ok:gY mv J)(hn:ns.length=mv)(tK:∀g,g<mv->∃a∈J,a.g=g)(hR:R<=1000)(Fh:sQ [cJ ns J,.int (R:Int),wd,.non]=sL (dB mv R X)) :
  (ix [cJ ns J,.int (R:Int),wd]=U .non/\∀c,1<=c->c<=R-dep J->¬æ J mv X c (R-dep J-c) (iC X c (R-dep J-c)))\/∃c f,Đ J mv (R-dep J) X c f/\ix [cJ ns J,.int (R:Int),wd]=U (vP c f (eU mv (iC X c (R-dep J-c)))):=by
 have hl:=ok.len;have hm:=ok.le;have hd:=HC J;have lo:=Zm ok hn tK;have mb:=Hm (ns:=ns) (J:=J) (by omega);have lp:=Nf (g:=gV 5) (b:=jI) (λ(i:Nat)=>D.int (1+(i:Int))) (λZ=>∃y5 y6 y7,Z=[U (cJ ns J),sI (R:Int),U wd,sL (dB mv R X),sI ((R:Int)-(dep J:Int)),y5,y6,y7])
  (λi=>¬æ J mv X (1+i) (R-dep J-(1+i)) (iC X (1+i) (R-dep J-(1+i))))
  (λi w=>∃f:Nat,w=vP ((1+i:Nat):Int) f (eU mv (iC X (1+i) (R-dep J-(1+i))))/\æ J mv X (1+i) (R-dep J-(1+i)) (iC X (1+i) (R-dep J-(1+i)))/\f<=R-dep J-(1+i)/\(∀n,f<=n->n<R-dep J-(1+i)->Af mv X (1+i) (iC X (1+i) (R-dep J-(1+i))) n)/\(f=0\/¬Af mv X (1+i) (iC X (1+i) (R-dep J-(1+i))) (f-1)))
  (cv (R-dep J)) [U (cJ ns J),sI (R:Int),U wd,sL (dB mv R X),sI ((R:Int)-(dep J:Int)),L,L,L] ⟨_,_,_,rfl⟩ (by
  rintro i hi Z ⟨y5,y6,y7,rfl⟩;have hi:=cD.mp hi;refine⟨[U (cJ ns J),sI (R:Int),U wd,sL (dB mv R X),sI ((R:Int)-(dep J:Int)),sI (1+(i:Int)),y6,y7],rfl,?_⟩;have e1:((1+i:Nat):Int)=1+(i:Int):=by omega
  have C2:((R-dep J-(1+i):Nat):Int)=(R:Int)-(dep J:Int)-(1+(i:Int)):=by omega
  have g1:=KQ (mv:=mv) (m:=R) (f:=R-dep J-(1+i)) (c:=1+i) (X:=X) (by omega) (by omega);rw[show(λg=>X (R-dep J-(1+i)+(1+i)) g-X (R-dep J-(1+i)) g)=iC X (1+i) (R-dep J-(1+i))from rfl]at g1;obtain⟨b,Rg,Bm⟩:=ŗ (ns:=ns) (J:=J) (mv:=mv) (m:=R) (c:=1+i) (f:=R-dep J-(1+i)) (X:=X) (Ϝ:=iC X (1+i) (R-dep J-(1+i))) ok hn hR (by omega) (by omega);obtain⟨f,Ma,Bn,IM,IN⟩:=Vm (mv:=mv) (m:=R) (k:=R-dep J-(1+i)) (c:=1+i) (X:=X) (Ϝ:=iC X (1+i) (R-dep J-(1+i))) (by omega) hR (by omega);rw[e1,C2]at g1 Rg Ma;cases b with
  |false=>refine .inl ⟨λz=>absurd (Bm.mpr z) (by decide),[U (cJ ns J),sI (R:Int),U wd,sL (dB mv R X),sI ((R:Int)-(dep J:Int)),sI (1+(i:Int)),sI ((R:Int)-(dep J:Int)-(1+(i:Int))),sL (eU mv (iC X (1+i) (R-dep J-(1+i))))],?_,_,_,_,rfl⟩;generalize eU mv (iC X (1+i) (R-dep J-(1+i)))=vl,dB mv R X=rs,cJ ns J=net at *;unfold jI;clear hl hm hd lo mb hi e1 C2 Bm Ma Bn IM IN tK ok hn Fh hR;walk_at "mit"
  |true=>refine .inr ⟨_,⟨f,rfl,Bm.mp rfl,Bn,IM,IN⟩,?_⟩;rw[e1];unfold vP;generalize eU mv (iC X (1+i) (R-dep J-(1+i)))=vl,dB mv R X=rs,cJ ns J=net at *;unfold jI;clear hl hm hd lo mb hi e1 C2 Bm Bn IM IN tK ok hn Fh hR;walk_at "mit")
 have er:rZ [.int 1,.int ((R:Int)-(dep J:Int)+1)]=U ((cv (R-dep J)).map λ(i:Nat)=>D.int (1+(i:Int))):=by
  by_cases hh:dep J<=R
  ·rw[u8 (by omega) (by omega) (by omega) (by omega),show((R:Int)-(dep J:Int)+1-1).toNat=R-dep J by omega];rfl
  ·have:dep J<=4:=Et λa ha=>(ok.right a ha).b;rw[u8 (by omega) (by omega) (by omega) (by omega),show((R:Int)-(dep J:Int)+1-1).toNat=R-dep J by omega];rfl
 rcases lp with⟨h1,ρ',h2,y5,y6,y7,rfl⟩|⟨pre,i,post,w,h1,h2,⟨f,rfl,q1,q2,q3,q4⟩,h3⟩
 ·refine .inl ⟨?_,λc GU C7=>?_⟩
  ·generalize ((cv (R-dep J)).map λ(i:Nat)=>D.int (1+(i:Int)))=rg at *;generalize dB mv R X=rs,cJ ns J=net at *;unfold ix;clear hl hm hd h1 tK ok hn hR;walk_at "mit"
  ·have:=h1 (c-1) (cD.mpr (by omega));rw[show 1+(c-1)=c by omega]at this;exact this
 ·obtain⟨hi,uN⟩:=UH h1;refine .inr ⟨1+i,f,⟨by omega,by omega,q1,λc' GU C7=>?_,q2,q3,q4⟩,?_⟩
  ·have:=h2 (c'-1) (uN _ (by omega));rw[show 1+(c'-1)=c' by omega]at this;exact this
  ·generalize vP ((1+i:Nat):Int) f (eU mv (iC X (1+i) (R-dep J-(1+i))))=w at *;clear h1 q1 q2 q3 q4 h2 uN hi hl hm hd tK ok hn hR;generalize ((cv (R-dep J)).map λ(i:Nat)=>D.int (1+(i:Int)))=rg,dB mv R X=rs,cJ ns J=net at *;unfold ix;walk_at "mit"
theorem P7 {n:Nat}{i w:Int}(h1:-w<=i)(h2:i<=w)(hw:w<2 ^ n):Sz n i:=by
 unfold Sz;have:(i.natAbs:Int)<2 ^ n:=by omega
 exact_mod_cast this
def Õ (ws:List Str):Nat:=(ws.map (·.length)).foldr max 0
theorem j8 {n:Nat}(h:∀w∈ws,w.length<=n):Õ ws<=n:=by
 induction ws with
 |nil=>exact gn _
 |cons x xs ih=>have h1:=h x cg;have h2:=ih λw hw=>h w (ck _ hw);show max x.length (Õ xs)<=n;omega
theorem HE {w:Str}(h:w∈ws):w.length<=Õ ws:=by
 induction ws with
 |nil=>cases h
 |cons x xs ih=>
  show w.length<=max x.length (Õ xs);rcases cu.mp h with rfl|h
  ·omega
  ·have:=ih h;omega
theorem XJ (h:ws≠[]):∃w∈ws,w.length=Õ ws:=by
 induction ws with
 |nil=>exact absurd rfl h
 |cons x xs ih=>
  show∃w∈x::xs,w.length=max x.length (Õ xs);by_cases hx:xs=[]
  ·exact⟨x,cg,by subst hx;show _=max _ 0;omega⟩
  ·obtain⟨w,hw,e⟩:=ih hx;by_cases hc:Õ xs<=x.length
   ·exact⟨x,cg,by omega⟩
   ·exact⟨w,ck _ hw,by omega⟩
theorem XN (h:ws≠[]):uQ [.lst (ws.map λw=>D.int (w.length:Int))]=sI (Õ ws:Int):=by
 have e:(ws.map λw=>D.int (w.length:Int))=(ws.map λw=>(w.length:Int)).map D.int:=by rw[df];rfl
 obtain⟨y,ys,rfl⟩:∃y ys,ws=y::ys:=by
  cases ws with
  |nil=>exact absurd rfl h
  |cons y ys=>exact⟨y,ys,rfl⟩
 have hm:∀ϖ,BR (((y::ys).map λw=>(w.length:Int)))=U ϖ->ϖ=(Õ (y::ys):Int):=by intro ϖ hM;obtain⟨h1,h2⟩:=N3 hM;obtain⟨w,hw,ew⟩:=cO.mp h1;obtain⟨w2,Fk,ew2⟩:=XJ (ws:=y::ys) (by simp);have a1:=HE hw;have a2:=h2 _ (cO.mpr ⟨w2,Fk,rfl⟩);omega
 rw[e];show(lB _).bind _=_;rw[NA,dN];have:∃ϖ,BR ((y::ys).map λw=>(w.length:Int))=U ϖ:=⟨_,rfl⟩;obtain⟨ϖ,hM⟩:=this;rw[hM,hm ϖ hM];rfl
theorem ű (hb:∀w∈ws,w.length<=2000)(hl:ws.length<=1000)(r:L3.Env){f:EF}(h:f r=U (cx ws)) :
  eJ (Ý f) 1 [] (gV 0) fW (eN ee (Ä (C 0) Å)) r=sL (ws.map λw=>D.int (w.length:Int)):=by
 refine zt D.str (λw=>D.int (w.length:Int)) ws (by unfold Ý;rw[h];rfl) (by omega) λw hw=>⟨[U (.str w)],rfl,?_⟩;have:=KJ (x:=w) (by have:=hb w hw;omega);clear hb;walk_at "mid"
theorem NX (h:ws≠[])(hb:∀w∈ws,w.length<=2000)(hl:ws.length<=1000):oI [cx ws]=sI (Õ ws:Int):=by have q:=ű hb hl [U (cx ws)] (f:=C 0) rfl;have m:=XN h;have q:sU [U (cx ws)]=sL (ws.map λw=>D.int (w.length:Int)):=q;generalize cx ws=Ϝ,(ws.map λw=>D.int (w.length:Int))=L2 at *;clear hb hl h;unfold oI;walk_at "mid"
def iJ (c:Nat)(w:Str)(n:Nat):Str:=mT c (n-w.length)++w
theorem K6 (w:Str)(c:Nat):mT c 0++w=w:=by cases w with|mk a=>show(⟨iw 0 c++a⟩:Str)=⟨a⟩;simp
theorem Vn (w:Str)(n:Nat):Txt.rjust w (n:Int)=iJ 32 w n:=by
 unfold Txt.rjust iJ;by_cases h:(n:Int)<=w.length
 ·rw[if_pos h,show n-w.length=0 by omega,K6]
 ·rw[if_neg h,fC];unfold Builtin.Str.padded;show(⟨_⟩:Str)=⟨iw _ 32++w.cps⟩;simp
theorem Vo (w:Str)(n:Nat)(h1:w.cps[0]?≠U 43)(h2:w.cps[0]?≠U 45):Txt.zfill w (n:Int)=iJ 48 w n:=by
 unfold Txt.zfill iJ;by_cases h:(n:Int)<=w.length
 ·rw[if_pos h,show n-w.length=0 by omega,K6]
 ·rw[if_neg h,fC];unfold PySem.zfilled;split
  ·rename_i e;exact absurd e h1
  ·rename_i e;exact absurd e h2
  ·unfold Builtin.Str.padded;show(⟨_⟩:Str)=⟨iw _ 48++w.cps⟩;simp
theorem Vp (w:Str)(n:Nat):Txt.ljust w (n:Int)=w++mT 32 (n-w.length):=by
 unfold Txt.ljust;by_cases h:(n:Int)<=w.length
 ·rw[if_pos h,show n-w.length=0 by omega];cases w with|mk a=>show(⟨a⟩:Str)=⟨a++iw 0 32⟩;simp
 ·rw[if_neg h,fC];unfold Builtin.Str.padded;show(⟨_⟩:Str)=⟨w.cps++iw _ 32⟩;simp
theorem FI {n:Nat}(h:n<=10000):PadOk (n:Int)=Â:=by unfold PadOk fitsSsize Builtin.Str.tooLong sizeLine;rw[fC];simp;omega
theorem K7 {T:Str->Int->Str}{w:Str}{n:Nat}(h:n<=10000):xL T (.str w) (.int (n:Int))=U (.str (T w (n:Int))):=by show(if PadOk (n:Int)=Â then _ else L)=_;rw[if_pos (FI h)]
theorem XQ {i:Int}(h:0<=i):(dn i).cps[0]?≠U 43/\(dn i).cps[0]?≠U 45:=by
 obtain⟨n,rfl⟩:∃n:Nat,i=n:=⟨i.toNat,by omega⟩;have key:∀x∈(dn (n:Int)).cps.toList,48<=x:=by intro x hx;unfold dn at hx;rw[Str.ofString_eq_toList]at hx;simp at hx;obtain⟨c,hc,rfl⟩:=hx;have hc:c∈(xS n).toList:=hc;unfold xS at hc;rw[String.toList_ofList]at hc;have:=tO (b:=10) (by decide) (by decide) hc;unfold Char.isDigit at this;simp at this;exact this.1
 constructor
 ·intro e;have:=key 43 (by rw[←tW];exact vF e);omega
 ·intro e;have:=key 45 (by rw[←tW];exact vF e);omega
theorem Pd {c:Nat}(h:c<1000)(n:Nat):cX.strOk (mT c n)=Â:=by unfold cX.strOk mT;rw[←qX,dE];intro x hx;simp at hx;rw[decide_eq_true_iff,hx.2];omega
theorem O5 (c n:Nat):(mT c n).length=n:=by show(iw n c).size=n;simp
theorem NY {c n:Nat}{w:Str}(h:w.length<=n):(iJ c w n).length=n:=by unfold iJ;rw[vz,O5];omega
theorem vb:("round":Str).length=5:=by with_unfolding_all rfl
def wT:Option Int->Str
 |none=>"-"
 |some i=>dn i
def DU (t:Option Int):Prop:=∀i,t=U i->Sz 1900 i
theorem Pe {t:Option Int}(h:DU t):(wT t).length<=2000:=by
 cases t with
 |none=>decide
 |some i=>have:=OQ (h i rfl);show(dn i).length<=2000;omega
theorem į (t:Option Int):cX.strOk (wT t)=Â:=by
 cases t with
 |none=>exact zw _
 |some i=>exact DG i
theorem UI {t:Option Int}(h:DU t):mz [ez t]=U (.str (wT t)):=by
 cases t with
 |none=>rfl
 |some i=>have:=ja (h i rfl);unfold mz wT ez;clear h;walk_at "mid"
def mP (name:Str)(ts:List (Option Int)):List Str:=name::ts.map wT
def vQ (ws:List Str):List Str:=ws.map λw=>iJ 32 w (Õ ws)
theorem Pf {name:Str}{ts:List (Option Int)}(hn:name.length<=2000)(ht:∀t∈ts,DU t):∀w∈mP name ts,w.length<=2000:=by
 intro w hw;rcases cu.mp hw with rfl|hw
 ·exact hn
 ·obtain⟨t,RN,rfl⟩:=cO.mp hw;exact Pe (ht t RN)
theorem Ho (x:Str)(ys:List Str)(h:ys.length<=1000):dF (.lst [.str x]) (cx ys)=U (cx (x::ys)):=by unfold cx;rw[ve (by simp;omega)];rfl
theorem TZ {name:Str}{ts:List (Option Int)}(hn:name.length<=2000)(ht:∀t∈ts,DU t)(hl:ts.length<=900):kQ [.str name,.lst (ts.map ez)]=U (cx (vQ (mP name ts))):=by
 have q2:nY [U (.str name),sL (ts.map ez),L,L]=U (cx (ts.map wT)):=by unfold cx;rw[df];refine zt ez (λt=>D.str (wT t)) ts rfl (by omega) λt h=>⟨[U (ez t)],rfl,?_⟩;have:=UI (ht t h);clear ht;walk_at "mid"
 have a1:=Ho name (ts.map wT) (by simp;omega);have hb:=Pf hn ht;have w1:=NX (ws:=mP name ts) (by unfold mP;simp) hb (by unfold mP;simp;omega);have hw:=j8 hb;have q1:nX [U (.str name),sL (ts.map ez),U (cx (mP name ts)),sI (Õ (mP name ts):Int)]=U (cx (vQ (mP name ts))):=by unfold cx vQ;rw[df];refine zt D.str (λw=>D.str (iJ 32 w (Õ (mP name ts)))) (mP name ts) rfl (by unfold mP;simp;omega) λw Fk=>⟨[U (.str w),sI (Õ (mP name ts):Int)],rfl,?_⟩;have:=K7 (T:=Txt.rjust) (w:=w) (n:=Õ (mP name ts)) (by omega);rw[Vn]at this;clear hw hb ht hl;walk_at "mid"
 have e:cx (name::ts.map wT)=cx (mP name ts):=rfl;rw[e]at a1;generalize cx (vQ (mP name ts))=L1,cx (mP name ts)=L2,(Õ (mP name ts):Int)=W,cx (ts.map wT)=L3,ts.map ez=L4 at *;clear hw hb ht hl hn e;unfold kQ;walk_at "mid"
def fR (first:Int)(n:Nat):List Str:=(cv n).map λ(k:Nat)=>dn (first+(k:Int))
def F0 (first:Int)(n:Nat):List Str:=(("round":Str)++mT 32 (Õ ("round"::fR first n)-5))::(fR first n).map λw=>iJ 48 w (Õ ("round"::fR first n))
variable {first:Int}
theorem Pg {k:Nat}(h:0<=first/\first<=1000000000)(hk:k<=1000):Sz 1900 (first+(k:Int)):=(P7 (n:=64) (w:=1000001000) (by omega) (by omega) (by decide)).mono (by decide)
theorem Ű {n:Nat}(h:0<=first/\first<=1000000000)(hn:n<=900):∀w∈fR first n,w.length<=2000:=by intro w hw;obtain⟨k,hk,rfl⟩:=cO.mp hw;have:=OQ (Pg (k:=k) h (by have:=cD.mp hk;omega));omega
theorem Ew (first:Int)(n:Nat):(fR first n).length=n:=by unfold fR;simp
theorem P8 {n:Nat}(h:0<=first/\first<=1000000000)(hn:n<=900):∀w∈("round":Str)::fR first n,w.length<=2000:=by
 intro w hw;rcases cu.mp hw with rfl|hw
 ·rw[vb];decide
 ·exact Ű h hn w hw
theorem ů {n:Nat}(h:0<=first/\first<=1000000000)(hn:n<=900)(r:L3.Env)(hr:fi r=U ((cv n).map λ(t:Nat)=>D.int (t:Int)))(hc:iB r cap=[sI first]) :
  eJ fi 1 cap (gV 0) fW (eN iK (Ä (e2 dF (C 1) (C 0)) Å)) r=U (cx (fR first n)):=by
 unfold cx fR;rw[df];refine zt (λ(t:Nat)=>D.int (t:Int)) (λk=>D.str (dn (first+(k:Int)))) (cv n) hr (by simp;omega) λk hk=>⟨[sI (k:Int),sI first],by rw[hc];rfl,?_⟩;have:=ja (Pg (k:=k) h (by have:=cD.mp hk;omega));clear hc hr h hn hk;walk_at "mid"
theorem Tg {n:Nat}(h:0<=first/\first<=1000000000)(hn:n<=900):jK [.int first,.int (n:Int)]=U (cx (F0 first n)):=by
 have q2:mF [sI first,sI (n:Int),L,L]=U (cx (fR first n)):=ů h hn _ (Gj rfl (by omega)) rfl;have a1:=Ho "round" (fR first n) (by rw[Ew];omega);have hb:=P8 h hn;have w1:=NX (ws:="round"::fR first n) (by simp) hb (by rw[cB,Ew];omega);have hw:=j8 hb;have q1:mE [sI first,sI (n:Int),U (cx (fR first n)),sI (Õ ("round"::fR first n):Int)]=U (cx ((fR first n).map λw=>iJ 48 w (Õ ("round"::fR first n)))):=by unfold cx;rw[df];refine zt D.str (λw=>D.str (iJ 48 w (Õ ("round"::fR first n)))) (fR first n) rfl (by rw[Ew];omega) λw Fk=>⟨[U (.str w),sI (Õ ("round"::fR first n):Int)],rfl,?_⟩;have:=K7 (T:=Txt.zfill) (w:=w) (n:=Õ ("round"::fR first n)) (by omega);obtain⟨k,hk,ek⟩:=cO.mp Fk;have hh:=XQ (i:=first+(k:Int)) (by omega);rw[ek]at hh;rw[Vo _ _ hh.1 hh.2]at this;clear hw hb w1 a1 q2 Fk hk ek hh;walk_at "mid"
 have p1:=K7 (T:=Txt.ljust) (w:="round") (n:=Õ ("round"::fR first n)) (by omega);rw[Vp,vb]at p1;have a2:=Ho (("round":Str)++mT 32 (Õ ("round"::fR first n)-5)) ((fR first n).map λw=>iJ 48 w (Õ ("round"::fR first n))) (by rw[cA,Ew];omega);unfold F0;generalize cx ((("round":Str)++mT 32 (Õ ("round"::fR first n)-5))::(fR first n).map λw=>iJ 48 w (Õ ("round"::fR first n)))=L1 at *;generalize (("round":Str)++mT 32 (Õ ("round"::fR first n)-5))=L0,cx ((fR first n).map λw=>iJ 48 w (Õ ("round"::fR first n)))=L2,cx ("round"::fR first n)=L3,cx (fR first n)=L4,(Õ ("round"::fR first n):Int)=W at *;clear hw hb h hn;unfold jK;walk_at "mid"
def lx (row:List (Option Int)):D:=.lst (row.map ez)
section
variable (na:List Str)(Æ:List (List (Option Int)))(first:Int)
def è (j:Nat):List Str:=if j=0 then "round"::fR first Æ.length else mP (na.getD (j-1) "") (Æ.map λrow=>row.getD (j-1) L)
def FC (j:Nat):List Str:=if j=0 then F0 first Æ.length else vQ (è na Æ first j)
def lU (k:Nat):Str:=Str.join " " ((cv (na.length+1)).map λj=>(FC na Æ first j).getD k "")
def alm:Str:=Str.join "\n" ((cv (Æ.length+1)).map (lU na Æ first))
def qB (j k:Nat):Str:=if j=0/\k=0 then("round":Str)++mT 32 (Õ (è na Æ first 0)-5)else iJ (if j=0 then 48 else 32) ((è na Æ first j).getD k "") (Õ (è na Æ first j))
structure yT:Prop where
 n:∀x∈na,cX.strOk x=Â/\x.length<=100
 nl:na.length<=7
 r:∀row∈Æ,row.length=na.length/\∀t∈row,DU t
 rl:Æ.length<=90
 f:0<=first/\first<=1000000000
end
variable {Æ:List (List (Option Int))}
theorem Zo (j:Nat):(è na Æ first j).length=Æ.length+1:=by
 unfold è;by_cases h:j=0
 ·rw[if_pos h,cB,Ew]
 ·rw[if_neg h];unfold mP;simp
theorem Ph (O:yT na Æ first)(i:Nat):∀t∈Æ.map (λrow=>row.getD i L),DU t:=by
 intro t ht;obtain⟨row,hr,rfl⟩:=cO.mp ht;have h:=(O.r row hr).2;rw[cN];cases e:row[i]? with
 |none=>intro z hz;cases hz
 |some x=>exact h x (gJ e)
theorem Pj (O:yT na Æ first)(i:Nat):cX.strOk (na.getD i "")=Â/\(na.getD i "").length<=2000:=by
 rw[cN];cases e:na[i]? with
 |none=>exact⟨zw _,by decide⟩
 |some x=>have:=O.n x (gJ e);exact⟨this.1,by show x.length<=2000;omega⟩
theorem LC (O:yT na Æ first)(j:Nat):∀w∈è na Æ first j,w.length<=2000:=by
 unfold è;have:=O.rl;by_cases h:j=0
 ·rw[if_pos h];exact P8 O.f (by omega)
 ·rw[if_neg h];exact Pf (Pj O _).2 (Ph O _)
theorem Ů (O:yT na Æ first)(j:Nat):∀w∈è na Æ first j,cX.strOk w=Â:=by
 unfold è;by_cases h:j=0
 ·rw[if_pos h];intro w hw;rcases cu.mp hw with rfl|hw
  ·exact zw _
  ·obtain⟨k,_,rfl⟩:=cO.mp hw;exact DG _
 ·rw[if_neg h];intro w hw;rcases cu.mp hw with rfl|hw
  ·exact(Pj O _).1
  ·obtain⟨t,_,rfl⟩:=cO.mp hw;exact į t
theorem Pk (j:Nat){k:Nat}(hk:k<Æ.length+1):(è na Æ first j)[k]?=U ((è na Æ first j).getD k "")/\(è na Æ first j).getD k ""∈è na Æ first j:=by
 have h:k<(è na Æ first j).length:=by rw[Zo];exact hk
 have e:(è na Æ first j)[k]?=U ((è na Æ first j)[k]):=by simp[h]
 rw[cN,e];exact⟨rfl,gW h⟩
theorem P9 (j:Nat){k:Nat}(hk:k<Æ.length+1):(FC na Æ first j)[k]?=U (qB na Æ first j k):=by
 unfold FC qB;by_cases h:j=0
 ·subst h;rw[if_pos rfl];unfold F0;cases k with
  |zero=>rw[if_pos ⟨rfl,rfl⟩];rfl
  |succ k=>
   rw[if_neg (λz=>by cases z.2),if_pos rfl,List.getElem?_cons_succ,dm];have e:è na Æ first 0=("round":Str)::fR first Æ.length:=by unfold è;rw[if_pos rfl]
   rw[e,xQ];have hl:k<(fR first Æ.length).length:=by rw[Ew];omega
   rw[cN,dh hl];rfl
 ·rw[if_neg h,if_neg (λz=>h z.1),if_neg h];unfold vQ;rw[dm,(Pk j hk).1];rfl
theorem ŭ (O:yT na Æ first)(j:Nat){k:Nat}(hk:k<Æ.length+1):(qB na Æ first j k).length<=2000/\cX.strOk (qB na Æ first j k)=Â:=by
 have h1:=j8 (LC O j);have h2:=(Pk (na:=na) (first:=first) j hk).2;unfold qB;by_cases h:j=0/\k=0
 ·rw[if_pos h];have h3:=j8 (LC O 0);have h4:5<=Õ (è na Æ first 0):=by have:=HE (ws:=è na Æ first 0) (w:="round") (by unfold è;rw[if_pos rfl];exact cg);rw[vb]at this;exact this
  exact⟨by rw[vz,O5,vb];omega,HP (zw _) (Pd (by decide) _)⟩
 ·rw[if_neg h];refine⟨by rw[NY (HE h2)];exact h1,?_⟩;unfold iJ;refine HP (Pd ?_ _) (Ů O j _ h2);split<;>decide
def uY (na:List Str)(Æ:List (List (Option Int)))(first:Int)(n:Nat):List D:=(cv n).map λj=>cx (FC na Æ first j)
theorem Į (n:Nat):uY na Æ first (n+1)=uY na Æ first n++[cx (FC na Æ first n)]:=by unfold uY;rw[A9,fV];rfl
def oH (na:List Str)(Æ:List (List (Option Int)))(first:Int)(k:Nat):List Str:=(cv (na.length+1)).map λj=>qB na Æ first j k
theorem K8 {k:Nat}(hk:k<Æ.length+1):lU na Æ first k=Str.join " " (oH na Æ first k):=by unfold lU oH;congr 1;refine gS λj _=>?_;rw[cN,P9 j hk];rfl
theorem K9 (O:yT na Æ first){k:Nat}(hk:k<Æ.length+1):∀y∈oH na Æ first k,y.length<=2000/\cX.strOk y=Â:=by intro y hy;obtain⟨j,_,rfl⟩:=cO.mp hy;exact ŭ O j hk
theorem La (k:Nat):(oH na Æ first k).length=na.length+1:=by unfold oH;simp
theorem Lq:(" ":Str).length=1/\("\n":Str).length=1:=by decide
theorem Wk (O:yT na Æ first){k:Nat}(hk:k<Æ.length+1):m7 (.str " ") (cx (oH na Æ first k))=U (.str (lU na Æ first k)):=by rw[K8 hk];refine Gu (b:=2000) (λy hy=>(K9 O hk y hy).1) ?_;have:=O.nl;rw[La,Lq.1];omega
theorem Pl (O:yT na Æ first){k:Nat}(hk:k<Æ.length+1):(lU na Æ first k).length<=20000/\cX.strOk (lU na Æ first k)=Â:=by rw[K8 hk];have h1:=Hj " " (oH na Æ first k);have h2:=Gs (b:=2000) λy hy=>(K9 O hk y hy).1;have:=O.nl;rw[La,Lq.1]at h1;rw[La]at h2;exact⟨by omega,K4 (zw _) λy hy=>(K9 O hk y hy).2⟩
def sO (na:List Str)(Æ:List (List (Option Int)))(first:Int)(n:Nat):List Str:=(cv n).map (lU na Æ first)
theorem XR (O:yT na Æ first):m7 (.str "\n") (cx (sO na Æ first (Æ.length+1)))=U (.str (alm na Æ first)):=by
 refine Gu (b:=20000) (λy hy=>?_) ?_
 ·obtain⟨k,hk,rfl⟩:=cO.mp hy;exact(Pl O (cD.mp hk)).1
 ·have:=O.rl;unfold sO;rw[cA,eD,Lq.2];omega
theorem XU (O:yT na Æ first){k:Nat}(hk:k<Æ.length+1):kO [.lst (uY na Æ first (na.length+1)),.int (k:Int)]=U (.str (lU na Æ first k)):=by
 have q:nW [sL (uY na Æ first (na.length+1)),sI (k:Int)]=U (cx (oH na Æ first k)):=by unfold cx oH;rw[df];refine zt (λj=>cx (FC na Æ first j)) (λj=>D.str (qB na Æ first j k)) (cv (na.length+1)) rfl (by have:=O.nl;simp;omega) λj hj=>⟨[U (cx (FC na Æ first j)),sI (k:Int)],rfl,?_⟩;show atI _ _=_;exact K0 D.str (.inl rfl) (P9 j hk)
 have j:=Wk O hk;generalize cx (oH na Æ first k)=L1,uY na Æ first (na.length+1)=L2,lU na Æ first k=L3 at *
 clear hk O;unfold kO;walk_at "mid"
theorem Zp (enc:α->D){J:List α}{i:Nat}{d:D}(h:(iX 0 (J.map enc))[i]?=U d):∃x,J[i]?=U x/\d=.tup [.int (i:Int),enc x]:=by
 rw[Hi enc,dm,List.getElem?_zipIdx]at h;cases e:J[i]? with
 |none=>rw[e]at h;cases h
 |some x=>rw[e]at h;cases h;exact⟨x,rfl,by simp⟩
theorem Wl (O:yT na Æ first):oX [cx na,.lst (Æ.map lx),.int first]=U (.str (alm na Æ first)):=by
 have hn:=O.nl;have hr:=O.rl;have n0:=Tg (n:=Æ.length) O.f (by omega);have l1:ee [.lst (Æ.map lx)]=U (.int (Æ.length:Int)):=(ya _).trans (by rw[cA]);obtain⟨ρ',h1,x4,x5,rfl⟩:=ub (g:=gT (È (gV 4) (È (gV 5) Ô))) (b:=oC) (S:=iX 0 (na.map D.str)) (Z:=[U (cx na),U (.lst (Æ.map lx)),U (.int first),U (.lst (uY na Æ first 1)),L,L])
  (λpre Z=>∃x4 x5,Z=[U (cx na),U (.lst (Æ.map lx)),U (.int first),U (.lst (uY na Æ first (pre.length+1))),x4,x5]) ⟨L,L,rfl⟩ (by
   rintro pre d post Z he ⟨x4,x5,rfl⟩;obtain⟨x,hx,rfl⟩:=Zp D.str (HJ he);have hi:pre.length<na.length:=(de.mp hx).1;refine⟨_,_,rfl,.inl ?_,U (.int (pre.length:Int)),U (.str x),rfl⟩;rw[cV,kK,Į (pre.length+1)];generalize hp:pre.length=i at *;have e:FC na Æ first (i+1)=vQ (mP x (Æ.map λrow=>row.getD i L)):=by unfold FC è;rw[if_neg (by omega),if_neg (by omega),Nat.add_sub_cancel,cN,hx];rfl
   rw[e];have q:rH [U (cx na),U (.lst (Æ.map lx)),U (.int first),U (.lst (uY na Æ first (i+1))),U (.int (i:Int)),U (.str x)]=U (.lst ((Æ.map λrow=>row.getD i L).map ez)):=by rw[df];refine zt lx (λrow=>ez (row.getD i L)) Æ rfl (by omega) λrow vS=>⟨[U (lx row),U (.int (i:Int))],rfl,?_⟩;show atI _ _=_;have hl:=(O.r row vS).1;refine K0 ez (.inl rfl) ?_;rw[cN,dh (by omega)];rfl
   have tc:=TZ (name:=x) (ts:=Æ.map λrow=>row.getD i L) (by have:=(O.n x (gJ hx)).2;omega) (Ph O i) (by rw[cA];omega);have hl:(uY na Æ first (i+1)).length<16777216:=by unfold uY;rw[cA,eD];omega
   generalize cx (vQ (mP x (Æ.map λrow=>row.getD i L)))=L1,(Æ.map λrow=>row.getD i L).map ez=L2,uY na Æ first (i+1)=L3,cx na=L4,Æ.map lx=L5 at *
   clear e hi hx he hp n0 l1 hn hr O;unfold oC;walk_at "mid")
 have iu:(iX 0 (na.map D.str)).length=na.length:=by rw[Hi D.str];simp
 rw[iu]at h1;have q1:rG [U (cx na),U (.lst (Æ.map lx)),U (.int first),U (.lst (uY na Æ first (na.length+1))),x4,x5]=U (cx (sO na Æ first (Æ.length+1))):=by
  unfold cx sO;rw[df];refine zt (λ(t:Nat)=>D.int (t:Int)) (λk=>D.str (lU na Æ first k)) (cv (Æ.length+1)) (Gj (n:=Æ.length+1) ?_ (by omega)) (by simp;omega) λk hk=>⟨[U (.int (k:Int)),U (.lst (uY na Æ first (na.length+1)))],rfl,?_⟩
  ·show(eN ee (Ä (C 1) Å) [U (cx na),U (.lst (Æ.map lx)),U (.int first),U (.lst (uY na Æ first (na.length+1))),x4,x5]).bind (λx=>dF x (.int 1))=_;show(ee [.lst (Æ.map lx)]).bind _=_;rw[l1];show U (D.int ((Æ.length:Int)+1))=_;rw[show((Æ.length:Int)+1)=((Æ.length+1:Nat):Int)by omega]
  ·have:=XU O (cD.mp hk);generalize uY na Æ first (na.length+1)=Ϝ at *
   clear hk h1 l1 iu n0 hn hr O;walk_at "mid"
 have j:=XR O;have f0:uY na Æ first 1=[cx (F0 first Æ.length)]:=rfl
 rw[f0]at h1;unfold cx at n0 q1 h1 j;unfold cx;generalize D.lst ((F0 first Æ.length).map D.str)=c0,uY na Æ first (na.length+1)=L3,alm na Æ first=L0,na.map D.str=L4,Æ.map lx=L5,(sO na Æ first (Æ.length+1)).map D.str=L6 at *
 clear hn hr f0 iu O;unfold oX;walk_at "mid"
theorem NJ {α:Type}(F:α->T){v:Int}:∀(xs:List α) (w:T),xs.foldl (λw a=>mx w (F a)) w=U v->w=U v\/∃a∈xs,F a=U v
 |[],w,h=>.inl h
 |x::xs,w,h=>by
  rcases NJ F xs _ h with h|⟨a,ha,e⟩
  ·cases w with
   |none=>exact .inr ⟨x,cg,h⟩
   |some i=>
    have h:mx (U i) (F x)=U v:=h;cases e:F x with
    |none=>rw[e]at h;exact .inl h
    |some j=>
     rw[e]at h;simp only[mx]at h;by_cases hj:j > i
     ·rw[if_pos hj]at h;exact .inr ⟨x,cg,e.trans h⟩
     ·rw[if_neg hj]at h;exact .inl h
  ·exact .inr ⟨a,ck _ ha,e⟩
theorem ó.bd (ok:gY mv J)(hm:mv<=5)(h0:∀a∈J,a.b=0->a.s<a.g)(ht:∀a∈J,0<=a.t/\a.t<=1000000000)(h:ó J mv (dep J) R (λ_ _=>U 0) (λ_ _=>L) Ϛ) :
  ∀i g,i<dep J+R->g<mv->∀v,Ϛ i g=U v->0<=v/\v<=1000000000*(6*(i:Int)+(g:Int)+1):=by
 refine Hn ok λi g h1 h2 hi hg v e=>?_;by_cases hd:i<dep J
 ·rw[h.past i hd g hg]at e;cases e;omega
 ·have e0:i=dep J+(i-dep J):=by omega
  rw[e0,h.rc _ (by omega) g hg,←e0]at e;rcases NJ _ _ _ e with z|⟨a,ha,z⟩
  ·cases z
  ·obtain⟨ha,pf⟩:=cR.mp ha;have pf:a.g=g:=by simpa using pf
   have hs:=(ok.right a ha).s;have hb:=vn ha;have:=ht a ha;cases e1:Ϛ (i-a.b) a.s with
   |none=>rw[e1]at z;cases z
   |some u=>
    rw[e1]at z;cases z;by_cases xE:a.b=0
    ·have:=h0 a ha xE;rw[xE,ma]at e1;have:=h2 a ha pf xE hi hs u e1;omega
    ·have:=h1 (i-a.b) (by omega) a.s (by omega) hs u e1;omega
section
variable {n:Int}
def oO (mv R:Nat)(ϕ:Nat->Nat->T):List (List T):=(cv R).map λi=>(cv mv).map (ϕ i)
theorem O6 (mv R:Nat)(ϕ:Nat->Nat->T):(oO mv R ϕ).map lx=dC mv R ϕ:=by unfold oO dC kr;rw[df];refine gS λi _=>?_;show D.lst (((cv mv).map (ϕ i)).map ez)=_;rw[df];rfl
theorem vZ {v:Int}(h0:0<=v)(h1:v<=1000000000000):Sz 1900 v:=(P7 (n:=64) (w:=1000000000000) (by omega) h1 (by decide)).mono (by decide)
structure Bh (na:List Str)(J:List gx):Prop where
 ok:gY na.length J
 nm:oB na
 ne:na≠[]
 le:na.length<=5
 up:∀a∈J,a.b=0->a.s<a.g
 t:∀a∈J,0<=a.t/\a.t<=1000000000
theorem Bh.alm (F:Bh na J)(hR:R<=80)(h:ó J na.length (dep J) R (λ_ _=>U 0) (λ_ _=>L) Ϛ):yT na (oO na.length R λr g=>Ϛ (dep J+r) g) 0:=by have hd:dep J<=4:=Et λa ha=>(F.ok.right a ha).b;refine⟨λx hx=>⟨En (F.nm.ok x hx),by have:=uv (F.nm.ok x hx);omega⟩,by have:=F.le;omega,λrow hr=>?_,by unfold oO;simp;omega,by omega⟩;obtain⟨i,hi,rfl⟩:=cO.mp hr;refine⟨by simp,λt ht v e=>?_⟩;obtain⟨g,hg,rfl⟩:=cO.mp ht;have hi:=cD.mp hi;have hg:=cD.mp hg;have h9:=h.bd F.ok F.le F.up F.t (dep J+i) g (by omega) hg v e;have:=F.le;exact vZ h9.1 (by omega)
theorem Xa (F:Bh na J)(hR:R<=80):∃Ϛ,ó J na.length (dep J) R (λ_ _=>U 0) (λ_ _=>L) Ϛ/\oY [dk (cJ (na.map .str) J) tbl pt n,cx ["run",dn (R:Int)]]=U (.tup [.str (alm na (oO na.length R λr g=>Ϛ (dep J+r) g) 0),dk (cJ (na.map .str) J) tbl pt n]):=by obtain⟨Ϛ,h1,h2⟩:=LB (ns:=na.map .str) F.ok (by rw[cA]) (show R<=1000 by omega);refine⟨Ϛ,h2,?_⟩;have h3:=Wl (F.alm hR h2);rw[O6]at h3;have f1:dH [4] "names" (cJ (na.map .str) J)=U (cx na):=rfl;have f2:dH [5,6] "net" (dk (cJ (na.map .str) J) tbl pt n)=U (cJ (na.map .str) J):=rfl;have x1:dX (cx ["run",dn (R:Int)]) (.int 1)=U (.str (dn (R:Int))):=yc (xs:=(["run",dn (R:Int)]:List Str).map D.str) (j:=1) rfl;have i1:=Ca (n:=R) (by omega);generalize alm na (oO na.length R λr g=>Ϛ (dep J+r) g) 0=A,dC na.length R (λr g=>Ϛ (dep J+r) g)=B,dk (cJ (na.map .str) J) tbl pt n=d1 at *;generalize cJ (na.map .str) J=d2,cx ["run",dn (R:Int)]=d3 at *;generalize dn (R:Int)=d4,cx na=d5 at *;clear F h2;unfold oY;walk_at "mid"
theorem Ŭ:Wd "run" Â Ã:=⟨zw _,by decide +kernel,by decide +kernel,vf (by decide +kernel),by decide +kernel⟩
theorem Xb:Wd "again" Â Ã:=⟨zw _,by decide +kernel,by decide +kernel,vf (by decide +kernel),by decide +kernel⟩
theorem O7 {w0:Str}{l h:Int}{j:Nat}(hw:Wd w0 Â Ã)(h0:oV 32 w0/\w0.length<=20)(hk:Dh yk (.str w0)=U (.kt [uT (U (l,h))]))(ha:ð Â (.str w0) zp=U (.bl Â))(hd:gN.lookup w0=U mf)(hl:l<=(j:Int))(hh:(j:Int)<=h)(hj:j<10000000000)
  (hm:mf [dk (cJ (na.map .str) J) tbl pt n,cx [w0,dn (j:Int)]]=U (.tup [vB,dk (cJ (na.map .str) J) tbl pt n])):dM [dk (cJ (na.map .str) J) tbl pt n,.str (Str.join (eX 32) [w0,dn (j:Int)])]=U (.tup [vB,dk (cJ (na.map .str) J) tbl pt (n+1)]):=by
 refine KN (w0:=w0) (ps:=[(dn (j:Int),U (l,h))]) hw nofun h0 (λp hp=>?_) (by simp) hk (.inl ha) (λp hp=>?_) hd hm
 ·rw[cG]at hp;subst hp;exact⟨λl' h' e=>by cases e;exact⟨j,rfl,by assumption,hl,hh⟩,HU (by assumption)⟩
 ·rw[cG]at hp;subst hp;exact nofun
theorem Zq (F:Bh na J)(hR:R<=80):∃Ϛ,ó J na.length (dep J) R (λ_ _=>U 0) (λ_ _=>L) Ϛ/\dM [dk (cJ (na.map .str) J) tbl pt n,.str (Str.join (eX 32) ["run",dn (R:Int)])]=U (.tup [.str (alm na (oO na.length R λr g=>Ϛ (dep J+r) g) 0),dk (cJ (na.map .str) J) tbl pt (n+1)]):=by obtain⟨Ϛ,h1,h2⟩:=Xa (tbl:=tbl) (pt:=pt) (n:=n) F hR;exact⟨Ϛ,h1,O7 (l:=0) (h:=400) Ŭ (by constructor<;>(try unfold oV)<;>decide +kernel) rfl (vf (by decide +kernel)) rfl (by omega) (by omega) (by omega) h2⟩
end
theorem Mx.mono {hi:Nat}(ok:gY mv J)(hM:Mx J mv (dep J) hi V)(h0:∀i,i<dep J->∀g,g<mv->V i g=0)(hp:∀i,i<hi->∀g,g<mv->0<=V i g):∀i g,i+1<hi->g<mv->V i g<=V (i+1) g:=by
 refine Hn ok λi g h1 h2 hi hg=>?_;by_cases hd:i<dep J
 ·rw[h0 i hd g hg];exact hp _ hi g hg
 ·obtain⟨a,ha,pf,e⟩:=hM.at_ i (by omega) (by omega) g hg;have hb:=vn ha;have ge:=hM.ge (i+1) (by omega) hi a ha;have hs:=(ok.right a ha).s;rw[pf]at ge;by_cases xE:a.b=0
  ·rw[xE]at e ge;have:=h2 a ha pf xE hi hs;simp only[ma]at e ge;omega
  ·have:=h1 (i-a.b) (by omega) a.s (by omega) hs;rw[show i+1-a.b=i-a.b+1 by omega]at ge;omega
theorem ū {zs:List Int}(hz:∀z∈zs,Sz 1900 z)(hl:zs.length<=1000):kj [.lst (zs.map .int)]=U (cx (zs.map dn)):=by
 have q:m8 [sL (zs.map .int)]=U (cx (zs.map dn)):=by unfold cx;rw[df];refine zt (λ(z:Int)=>D.int z) (λz=>D.str (dn z)) zs rfl (by omega) λz Bq=>⟨[sI z],rfl,?_⟩;have:=ja (hz z Bq);clear hz hl Bq;walk_at "mid"
 unfold kj;clear hz hl;walk_at "mid"
section
variable {n:Int}
def pv (c f:Nat)(mv:Nat)(Ϝ:Nat->Int):List Str:=dn (c:Int)::dn (f:Int)::(cv mv).map λg=>dn (Ϝ g)
theorem Wm (F:Bh na J)(tK:∀g,g<na.length->∃a∈J,a.g=g){R':Nat}(hR1:1<=R)(hR:R<=60)(hR':R'<=100)(DX:R<=R')(hr:ó J na.length (dep J) R' (λ_ _=>U 0) (λ_ _=>L) Y')(hV:∀i,i<dep J+R'->∀g,g<na.length->Y' i g=U (V i g))(hM:Mx J na.length (dep J) (dep J+R') V) :
  dM [dk (cJ (na.map .str) J) tbl pt n,.str (Str.join (eX 32) ["again",dn (R:Int)])]=U (.tup [.str "none",dk (cJ (na.map .str) J) tbl pt (n+1)]) \/
  ∃(c f:Nat) (Ϝ:Nat->Int),1<=c/\c+f+dep J<=R/\(∀g,g<na.length->0<=Ϝ g/\Ϝ g<=1000000000000)/\(∀m g,f<=m->m+c<R'->g<na.length->V (dep J+(m+c)) g=V (dep J+m) g+Ϝ g) /\
   dM [dk (cJ (na.map .str) J) tbl pt n,.str (Str.join (eX 32) ["again",dn (R:Int)])]=U (.tup [.str (Str.join (eX 32) (pv c f na.length Ϝ)),dk (cJ (na.map .str) J) tbl pt (n+1)]):=by
 have hd:dep J<=4:=Et λa ha=>(F.ok.right a ha).b;have hd1:=HC J;have ox:=F.le;obtain⟨Ϛ,h1,h2⟩:=LB (ns:=na.map .str) F.ok (by rw[cA]) (show R<=1000 by omega);have one:=ó.one F.ok h2 (hr.cut DX) (λ_ _ _ _=>rfl) (λ_ _ _ _=>rfl);have h3:sQ [cJ (na.map .str) J,.int (R:Int),.non,.non]=sL (dB na.length R λr g=>V (dep J+r) g):=by rw[h1];unfold dB;rw[MZ λi hi g hg=>(one (dep J+i) (by omega) g hg).trans (hV _ (by omega) g hg)]
 have b0:∀i,i<dep J+R'->∀g,g<na.length->0<=V i g/\V i g<=1000000000000:=λi hi g hg=>by have:=hr.bd F.ok F.le F.up F.t i g hi hg _ (hV i hi g hg);omega
 have m1:=hM.mono F.ok (λi hi g hg=>by have:=hV i (by omega) g hg;rw[hr.past i hi g hg]at this;exact(Option.some.inj this).symm) λi hi g hg=>(b0 i hi g hg).1;have mc:∀c m g,dep J+(m+c)<dep J+R'->g<na.length->V (dep J+m) g<=V (dep J+(m+c)) g:=by
  intro c;induction c with
  |zero=>intro m g _ _;exact sv _
  |succ c ih=>intro m g h hg;exact Int.le_trans (ih m g (by omega) hg) (m1 (dep J+(m+c)) g (by assumption) hg)
 have x1:dX (cx ["again",dn (R:Int)]) (.int 1)=U (.str (dn (R:Int))):=yc (xs:=(["again",dn (R:Int)]:List Str).map D.str) (j:=1) rfl;have i1:=Ca (n:=R) (by omega);have f2:dH [5,6] "net" (dk (cJ (na.map .str) J) tbl pt n)=U (cJ (na.map .str) J):=rfl;have say:∀vB,kX [dk (cJ (na.map .str) J) tbl pt n,cx ["again",dn (R:Int)]]=U (.tup [vB,dk (cJ (na.map .str) J) tbl pt n])->_:=λvB hm=>O7 (l:=1) (h:=200) (j:=R) Xb (by constructor<;>(try unfold oV)<;>decide +kernel) rfl (vf (by decide +kernel)) rfl (by omega) (by omega) (by omega) hm;rcases Zn F.ok (by rw[cA]) tK (by omega) h3 with⟨h4,_⟩|⟨c,f,Fd,h4⟩
 ·refine .inl (say _ ?_);generalize dk (cJ (na.map .str) J) tbl pt n=d1 at *;generalize cJ (na.map .str) J=d2,cx ["again",dn (R:Int)]=d3 at *;generalize dn (R:Int)=d4 at *;clear F tK h1 h2 one h3 b0 m1 mc say hr hV hM;unfold kX;walk_at "mid"
 ·have c1:=Fd.c1;have cS:=Fd.cS;have fS:=Fd.fS;refine .inr ⟨c,f,iC (λr g=>V (dep J+r) g) c (R-dep J-c),c1,by omega,λg hg=>?_,λm g hf hm hg=>?_,say _ ?_⟩
  ·have h5:=mc c (R-dep J-c) g (by omega) hg;have h6:=b0 (dep J+(R-dep J-c+c)) (by omega) g hg;have h7:=b0 (dep J+(R-dep J-c)) (by omega) g hg;show 0<=V (dep J+(R-dep J-c+c)) g-V (dep J+(R-dep J-c)) g/\_<=_;unfold iC;dsimp only;omega
  ·by_cases hq:m<R-dep J-c
   ·have:=Fd.gr m hf hq g hg;unfold iC at this ⊢;dsimp only at this ⊢;omega
   ·exact((Fd.ag.ever F.ok hM.on c1 m g hg (by omega)).1 hm)
  ·have bl:∀g,g<na.length->Sz 1900 (iC (λr g=>V (dep J+r) g) c (R-dep J-c) g):=λg hg=>by have h5:=mc c (R-dep J-c) g (by omega) hg;have h6:=b0 (dep J+(R-dep J-c+c)) (by omega) g hg;have h7:=b0 (dep J+(R-dep J-c)) (by omega) g hg;unfold iC;dsimp only;exact vZ (by omega) (by omega)
   generalize iC (λr g=>V (dep J+r) g) c (R-dep J-c)=Ϝ at *;have nw:=ū (zs:=(c:Int)::(f:Int)::(cv na.length).map Ϝ) (λz hz=>by
    rcases cu.mp hz with rfl|hz
    ·exact vZ (by omega) (by omega)
    rcases cu.mp hz with rfl|hz
    ·exact vZ (by omega) (by omega)
    obtain⟨g,hg,rfl⟩:=cO.mp hz;exact bl g (cD.mp hg)) (by simp;omega)
   have ew:((c:Int)::(f:Int)::(cv na.length).map Ϝ).map dn=pv c f na.length Ϝ:=by unfold pv;rw[cL,cL,df];rfl
   have ed:((c:Int)::(f:Int)::(cv na.length).map Ϝ).map D.int=[.int (c:Int),.int (f:Int)]++eU na.length Ϝ:=by unfold eU;rw[cL,cL,df];rfl
   rw[ew,ed]at nw;have ad:dF (.lst [.int (c:Int),.int (f:Int)]) (.lst (eU na.length Ϝ))=sL ([.int (c:Int),.int (f:Int)]++eU na.length Ϝ):=ve (by simp[eU];omega);have jn:m7 (.str " ") (cx (pv c f na.length Ϝ))=U (.str (Str.join (eX 32) (pv c f na.length Ϝ))):=by
    rw[CS];refine Gu (b:=2000) (λy hy=>?_) (by unfold pv;simp[JS];omega);rw[←ew]at hy;obtain⟨z,hz,rfl⟩:=cO.mp hy;have:Sz 1900 z:=by
     rcases cu.mp hz with rfl|hz
     ·exact vZ (by omega) (by omega)
     rcases cu.mp hz with rfl|hz
     ·exact vZ (by omega) (by omega)
     obtain⟨g,hg,rfl⟩:=cO.mp hz;exact bl g (cD.mp hg)
    exact Pe (t:=some z) λi e=>by cases e;exact this
   generalize Str.join (eX 32) (pv c f na.length Ϝ)=ϙ,cx (pv c f na.length Ϝ)=W,eU na.length Ϝ=vL at *;generalize [D.int (c:Int),D.int (f:Int)]++vL=ϖ,dk (cJ (na.map .str) J) tbl pt n=d1 at *;generalize cJ (na.map .str) J=d2,cx ["again",dn (R:Int)]=d3 at *;generalize dn (R:Int)=d4 at *;unfold vP at h4;have x2:dX (.tup [.int (c:Int),.int (f:Int),.lst vL]) (.int 0)=sI (c:Int):=rfl;have x3:dX (.tup [.int (c:Int),.int (f:Int),.lst vL]) (.int 1)=sI (f:Int):=rfl;have x4:dX (.tup [.int (c:Int),.int (f:Int),.lst vL]) (.int 2)=sL vL:=rfl;have is:pQ Ã (.tup [.int (c:Int),.int (f:Int),.lst vL]) .non=U (.bl Ã):=rfl;generalize D.tup [.int (c:Int),.int (f:Int),.lst vL]=pp at *;clear F tK h1 h2 one h3 b0 m1 mc say hr hV hM Fd bl ew ed c1 cS fS;unfold kX;walk_at "mie"
end
theorem Xc {x:Nat}(h:48<=x/\x<=57):Txt.contains "0123456789" (eX x)=Â:=by
 have:∀j,j<10->Txt.contains "0123456789" (eX (48+j))=Â:=by decide +kernel
 have:=this (x-48) (by omega);rwa[show 48+(x-48)=x by omega]at this
theorem Pm {w:Str}(hd:∀x∈w.cps.toList,48<=x/\x<=57):cX.strOk w=Â:=by unfold cX.strOk;rw[Array.all_eq_true'];intro x hx;have:=hd x (by simpa using hx);simp;omega
theorem O8 {w:Str}(hd:∀x∈w.cps.toList,48<=x/\x<=57)(hp:1<=w.length)(hl:w.length<=100):eA [.str w]=sI (PySem.NumText.digitsVal w.cps.toList:Int):=by
 have ne:w.cps.toList≠[]:=λe=>by rw[←yy,e]at hp;cases hp
 have it:mR [.str w]=sI (PySem.NumText.digitsVal w.cps.toList:Int):=by show(if w.length<=640 then(PySem.intText? w).bind λi=>U (D.int i)else L)=_;rw[if_pos (by omega),PySem.intText_digits hd ne (by omega)];rfl
 have hk:=Pm hd;have e1:ga Ã (.str w) (.str "-")=U (.bl Ã):=by
  rw[xh hk (zw _),decide_eq_false λe=>?_];rfl;have:(45:Nat)∈w.cps.toList:=by rw[e];decide +kernel
  have:=hd _ this;omega
 have e2:ga Ã (.str w) (.str "")=U (.bl Ã):=by rw[xh hk (zw _),decide_eq_false λe=>?_];rfl;exact ne (by rw[e];rfl)
 have a1:eN lm (Ä kn Å) [U (.str w)]=U (.bl Â):=by
  have:kn [U (.str w)]=sL (w.cps.toList.map λ_=>D.bl Â):=by refine zt (λc=>D.str (eX c)) (λ_=>D.bl Â) _ rfl (by rw[yy];omega) λx hx=>⟨_,rfl,?_⟩;have k2:AL (.str (eX x)) (.str "0123456789")=U (.bl Â):=congrArg (λb=>U (D.bl b)) (Xc (hd x hx));clear hx it e1 e2 hd hk;walk_at "mid"
  unfold eN Ä;rw[this];show lm [.lst (w.cps.toList.map λ_=>D.bl Â)]=_;rw[all_map];simp
 generalize (PySem.NumText.digitsVal w.cps.toList:Int)=v at *;unfold eA;generalize eN lm (Ä kn Å)=AA at *;clear hd hp hl ne hk;walk_at "mid"
theorem PZ {n:Nat}(h:n<1000000000000000):eA [.str (dn (n:Int))]=sI (n:Int):=by
 have hl:(dn (n:Int)).length<=16:=by rw[←yy,xp,cA];exact(iV (by decide) (by decide)).mpr (by omega)
 have hp:1<=(dn (n:Int)).length:=by rw[←yy,xp,cA];exact jZ
 have:=O8 (w:=dn (n:Int)) (λx hx=>uu hx) hp (by omega);rwa[xp,PySem.W.KIN.val_back]at this
theorem YY {n j:Nat}(h:n<10000000000)(hj:j<=80):eA [.str (mT 48 j++dn (n:Int))]=sI (n:Int):=by
 have hl:=xt h;have hp:1<=(dn (n:Int)).length:=by rw[←yy,xp,cA];exact jZ
 have e:(mT 48 j++dn (n:Int)).cps.toList=cy j 48++(dn (n:Int)).cps.toList:=by rw[yp];congr 1
 have el:(mT 48 j++dn (n:Int)).length=j+(dn (n:Int)).length:=by rw[←yy,e,cV,eS,yy]
 have:=O8 (w:=mT 48 j++dn (n:Int)) (λx hx=>by
  rw[e]at hx;rcases cW.mp hx with hx|hx
  ·have:=mW hx;omega
  ·exact uu hx) (by omega) (by omega)
 rw[this,e];have z:∀(j:Nat) (r:List Nat),PySem.NumText.digitsVal (cy j 48++r)=PySem.NumText.digitsVal r:=by
  intro j r;induction j with
  |zero=>rfl
  |succ j ih=>rw[eO,Aj];exact ih
 rw[z,xp,PySem.W.KIN.val_back]
theorem YZ:eA [.str "-"]=U .non:=by have e1:ga Ã (.str "-") (.str "-")=U (.bl Â):=(xh (zw _) (zw _)).trans (by simp);unfold eA;walk_at "mid"
def pW (p:Nat×Str):Str:=mT 32 p.1++p.2
def xX (p:Nat×Str):List Str:=cy p.1 ("":Str)++[p.2]
theorem O9 (p:Nat×Str):(pW p).cps.toList=cy p.1 32++p.2.cps.toList:=by unfold pW;rw[yp];congr 1
theorem HL {a:Str}{r:List Str}(h:r≠[]):(Str.join (eX 32) (a::r)).cps.toList=a.cps.toList++32::(Str.join (eX 32) r).cps.toList:=by
 cases r with
 |nil=>exact absurd rfl h
 |cons b r=>exact join_list 32 a b r
theorem Ly (w:Str)(r:List Str):∀m,(Str.join (eX 32) (cy m ("":Str)++w::r)).cps.toList=cy m 32++(Str.join (eX 32) (w::r)).cps.toList
 |0=>rfl
 |m+1=>by rw[eO,Aj,HL (by simp),Ly w r m];rfl
theorem Qf {ps:List (Nat×Str)}(h:ps≠[]):ps.flatMap xX≠[]:=by
 cases ps with
 |nil=>exact absurd rfl h
 |cons p ps=>simp[xX]
theorem NZ:∀{ps:List (Nat×Str)},ps≠[]->Str.join (eX 32) (ps.map pW)=Str.join (eX 32) (ps.flatMap xX)
 |[],h=>absurd rfl h
 |[p],_=>by apply wp;show(pW p).cps.toList=(Str.join (eX 32) (xX p++[])).cps.toList;rw[dA,O9];exact(Ly p.2 [] p.1).symm
 |p::q::r,_=>by
  apply wp;rw[cL,HL (by simp),NZ (ps:=q::r) (by simp),O9];have e:(p::q::r).flatMap xX=cy p.1 ("":Str)++p.2::(q::r).flatMap xX:=by rw[qL];show(cy p.1 ("":Str)++[p.2])++_=_;rw[dR];rfl
  rw[e,Ly,HL (Qf (by simp)),dR]
theorem ŋ {ps:List (Nat×Str)}(hm:∀p∈ps,p.1<=2000):(ps.flatMap xX).length<=ps.length*2001:=by
 induction ps with
 |nil=>simp
 |cons p ps ih=>have:=ih λq hq=>hm q (ck _ hq);have:=hm p cg;rw[qL,cV,cB];simp only[xX,cV,eS,cB,A7];omega
theorem P0:∀{ps:List (Nat×Str)},(∀p∈ps,p.2≠"")->(ps.flatMap xX).filter (λw:Str=>decide (w≠""))=ps.map (·.2)
 |[],_=>rfl
 |p::ps,h=>by
  rw[qL,yJ,P0 λq hq=>h q (ck _ hq)];have h1:=h p cg;have:(xX p).filter (λw:Str=>decide (w≠""))=[p.2]:=by unfold xX;rw[yJ,List.filter_replicate];simp[h1]
  rw[this];rfl
structure EN (p:Nat×Str):Prop where
 fr:oV 32 p.2
 ne:p.2≠""
 le:p.2.length<=100
 ok:cX.strOk p.2=Â
 m:p.1<=2000
theorem Y0 {ps:List (Nat×Str)}(h:ps≠[])(hp:∀p∈ps,EN p)(hl:ps.length<=10):pE [U (.str (Str.join (eX 32) (ps.map pW)))]=U (cx (ps.map (·.2))):=by
 have mem:∀w∈ps.flatMap xX,w = ""\/∃p∈ps,w=p.2:=λw hw=>by
  obtain⟨p,BH,hw⟩:=List.mem_flatMap.mp hw;rcases cW.mp hw with hw|hw
  ·exact .inl (mW hw)
  ·exact .inr ⟨p,BH,cG.mp hw⟩
 have le:=ŋ λp hq=>(hp p hq).m;have sp:ko (.str (Str.join (eX 32) (ps.map pW))) (.str (eX 32))=U (cx (ps.flatMap xX)):=by
  rw[NZ h];refine HA (b:=100) (Qf h) (λw hw=>?_) (λw hw=>?_) ?_
  ·rcases mem w hw with rfl|⟨p,hq,rfl⟩
   ·intro z;cases z
   ·exact(hp p hq).fr
  ·rcases mem w hw with rfl|⟨p,hq,rfl⟩
   ·exact gn _
   ·exact(hp p hq).le
  ·omega
 have sp:Ý (e2 ko (C 0) (eC (.str " "))) [U (.str (Str.join (eX 32) (ps.map pW)))]=U ((ps.flatMap xX).map D.str):=by unfold Ý e2;show((ko (.str (Str.join (eX 32) (ps.map pW))) (.str " ")).bind _)=_;rw[show(D.str (" ":Str))=D.str (eX 32)from congrArg D.str CS,sp];rfl
 have:=v6 (p:=tb (e2 (ga Â) (C 0) (eC (.str "")))) (f:=C 0) (g:=gV 0) (own:=1) (cap:=[]) D.str (λw:Str=>decide (w≠"")) D.str _ sp (by omega) λw hw=>⟨[U (.str w)],rfl,by
  have ok:cX.strOk w=Â:=by
   rcases mem w hw with rfl|⟨p,hq,rfl⟩
   ·exact zw _
   ·exact(hp p hq).ok
  have e:=xh (neg:=true) ok (zw "");show((ga Â (.str w) (.str "")).bind xB)=_;rw[e];simp[xB],λ_=>rfl⟩
 rw[P0 λp hq=>(hp p hq).ne]at this;exact this
structure sC (na:List Str)(Æ:List (List (Option Int))):Prop where
 O:yT na Æ 0
 nm:∀x∈na,AQ x=Â
 tm:∀row∈Æ,∀v,U v∈row->0<=v/\v<1000000000000000
 rl:Æ.length<=80
def sZ (na:List Str)(Æ:List (List (Option Int)))(k:Nat):List Str:=match k with
 |0=>"round"::na
 |k+1=>iJ 48 (dn (k:Int)) 5::(Æ.getD k []).map wT
theorem NK {n:Nat}(h:n<1000000000000000):(dn (n:Int)).length<=16/\1<=(dn (n:Int)).length:=by rw[←yy,xp,cA];exact⟨(iV (by decide) (by decide)).mpr (by omega),jZ⟩
theorem KR {n:Nat}(h:n<100):(dn (n:Int)).length<=2:=by rw[←yy,xp,cA];exact(iV (by decide) (by decide)).mpr (by omega)
theorem Y1 {n k:Nat}(h:k<n):(fR 0 n).getD k ""=dn (k:Int):=by unfold fR;rw[cN];simp[h]
theorem sC.w0 (h:sC na Æ):Õ (è na Æ 0 0)=5:=by
 have e:è na Æ 0 0=("round":Str)::fR 0 Æ.length:=by unfold è;rw[if_pos rfl]
 rw[e];have h1:Õ (("round":Str)::fR 0 Æ.length)<=5:=j8 λw hw=>by
  rcases cu.mp hw with rfl|hw
  ·rw[vb];exact cH _
  ·obtain⟨k,hk,rfl⟩:=cO.mp hw;have:=h.rl;have:=cD.mp hk;have:=KR (n:=k) (by omega);rw[og];omega
 have h2:=HE (ws:=("round":Str)::fR 0 Æ.length) cg;rw[vb]at h2;omega
def Dn (na:List Str)(Æ:List (List (Option Int)))(k j:Nat):Nat×Str:=if j=0 then(0,(sZ na Æ k).getD 0 "")else(Õ (è na Æ 0 j)-((è na Æ 0 j).getD k "").length,(è na Æ 0 j).getD k "")
theorem Y2 (h:sC na Æ){k:Nat}(hk:k<Æ.length+1)(j:Nat):qB na Æ 0 j k=pW (Dn na Æ k j):=by
 unfold qB Dn;by_cases hj:j=0
 ·subst hj;rw[if_pos rfl];cases k with
  |zero=>rw[if_pos ⟨rfl,rfl⟩,h.w0];apply wp;show(("round":Str)++mT 32 0).cps.toList=(mT 32 0 ++ "round").cps.toList;decide +kernel
  |succ k=>
   rw[if_neg (λz=>by cases z.2),if_pos rfl,h.w0];have e:(è na Æ 0 0).getD (k+1) ""=dn (k:Int):=by unfold è;rw[if_pos rfl,xQ];exact Y1 (by omega)
   rw[e];exact(K6 _ 32).symm
 ·rw[if_neg (λz=>hj z.1),if_neg hj,if_neg hj];rfl
theorem LD (h:sC na Æ){k:Nat}(hk:k<Æ.length+1):(cv (na.length+1)).map (λj=>(Dn na Æ k j).2)=sZ na Æ k:=by
 have hl:(sZ na Æ k).length=na.length+1:=by
  cases k with
  |zero=>rfl
  |succ k=>
   have hk:k<Æ.length:=by omega
   show((Æ.getD k []).map wT).length+1=_;rw[cA,cN,dh hk];exact congrArg (·+1) (h.O.r _ (gW hk)).1
 apply kT
 ·simp[hl]
 ·intro j h1 h2;have hj:j<na.length+1:=by simpa using h1
  simp only[nD,ml];unfold Dn;by_cases hz:j=0
  ·subst hz;rw[if_pos rfl];show(sZ na Æ k).getD 0 ""=_;rw[cN,dh h2];rfl
  ·rw[if_neg hz];show(è na Æ 0 j).getD k ""=_;unfold è;rw[if_neg hz];obtain⟨i,rfl⟩:∃i,j=i+1:=⟨j-1,by omega⟩;have hi:i<na.length:=by omega
   cases k with
   |zero=>show na.getD i ""=na[i];rw[cN,dh hi];rfl
   |succ k=>
    have hk:k<Æ.length:=by omega
    have e:=(h.O.r _ (gW hk)).1;show((Æ.map λrow=>row.getD i L).map wT).getD k ""=_;simp only[sZ,List.getElem_cons_succ];rw[cN];simp[hk,e,hi,cN]
theorem Qg (h:sC na Æ){k:Nat}(hk:k<Æ.length+1){w:Str}(hw:w∈sZ na Æ k):(∀c,c<45->oV c w)/\w≠""/\w.length<=100/\cX.strOk w=Â:=by
 have ne:∀{w:Str},1<=w.length->w≠"":=λh e=>by rw[e]at h;cases h
 cases k with
 |zero=>
  rcases cu.mp hw with rfl|hw
  ·refine⟨λc hc z=>?_,by decide +kernel,by decide +kernel,zw _⟩;have:∀x∈("round":Str).cps.toList,45<=x:=by decide +kernel
   have:=this c z;omega
  ·have:=uv (h.nm w hw);exact⟨λc hc=>HB (h.nm w hw) (by omega),ne this.1,by omega,En (h.nm w hw)⟩
 |succ k=>
  rcases cu.mp hw with rfl|hw
  ·have h2:=KR (n:=k) (by have:=h.rl;omega);have hl:(iJ 48 (dn (k:Int)) 5).length=5:=NY (by omega);have hd:∀x∈(iJ 48 (dn (k:Int)) 5).cps.toList,48<=x/\x<=57:=λx hx=>by
    unfold iJ at hx;rw[yp]at hx;rcases cW.mp hx with hx|hx
    ·have:x=48:=by simpa[mT]using(mW (by simpa[mT]using hx):x=48)
     omega
    ·exact uu hx
   exact⟨λc hc z=>by have:=hd c z;omega,ne (by omega),by omega,Pm hd⟩
  ·obtain⟨t,ht,rfl⟩:=cO.mp hw;cases t with
   |none=>
    refine⟨λc hc z=>?_,by decide +kernel,by decide +kernel,zw _⟩;have:∀x∈("-":Str).cps.toList,45<=x:=by decide +kernel
    have:=this c z;omega
   |some v=>
    have hk:k<Æ.length:=by omega
    rw[cN,dh hk]at ht;obtain⟨v0,v1⟩:=h.tm _ (gW hk) v ht;obtain⟨n,rfl⟩:=eY v0;have:=NK (n:=n) (by omega);exact⟨λc hc=>Gf (by omega),ne this.2,by show(dn (n:Int)).length<=100;omega,DG _⟩
def D7 (na:List Str)(Æ:List (List (Option Int)))(k:Nat):List (Nat×Str):=(cv (na.length+1)).map (Dn na Æ k)
theorem Pa (h:sC na Æ){k:Nat}(hk:k<Æ.length+1):lU na Æ 0 k=Str.join (eX 32) ((D7 na Æ k).map pW):=by rw[K8 hk,CS];congr 1;unfold oH D7;rw[df];exact gS λj _=>Y2 h hk j
theorem Ŋ (h:sC na Æ){k:Nat}(hk:k<Æ.length+1):∀p∈D7 na Æ k,EN p:=by
 intro p hp;obtain⟨j,hj,rfl⟩:=cO.mp hp;have hw:(Dn na Æ k j).2∈sZ na Æ k:=by rw[←LD h hk];exact cO.mpr ⟨j,hj,rfl⟩
 obtain⟨h1,h2,h3,h4⟩:=Qg h hk hw;refine⟨h1 32 (by decide),h2,h3,h4,?_⟩;unfold Dn;split
 ·exact gn _
 ·have:=j8 (LC h.O j);show Õ _-_<=2000;omega
theorem Xd (h:sC na Æ){k:Nat}(hk:k<Æ.length+1):oV 10 (lU na Æ 0 k):=by
 rw[Pa h hk];refine KH (by decide) λw hw=>?_;obtain⟨p,hp,rfl⟩:=cO.mp hw;refine Za (λz=>?_) ?_
 ·simp[mT]at z
 ·obtain⟨j,hj,rfl⟩:=cO.mp hp;exact(Qg h hk (by rw[←LD h hk];exact cO.mpr ⟨j,hj,rfl⟩)).1 10 (by decide)
theorem Zy (h:sC na Æ)(r:L3.Env):pF (U (.str (alm na Æ 0))::r)=sL ((cv (Æ.length+1)).map λk=>cx (sZ na Æ k)):=by
 have hr:=h.rl;have hn:=h.O.nl;have sp:ko (.str (alm na Æ 0)) (.str "\n")=U (cx ((cv (Æ.length+1)).map (lU na Æ 0))):=by
  unfold alm;rw[ı];refine HA (b:=20000) (by simp) (λw hw=>?_) (λw hw=>?_) (by simp;omega)
  ·obtain⟨k,hk,rfl⟩:=cO.mp hw;exact Xd h (cD.mp hk)
  ·obtain⟨k,hk,rfl⟩:=cO.mp hw;exact(Pl h.O (cD.mp hk)).1
 refine zt (λk=>D.str (lU na Æ 0 k)) (λk=>cx (sZ na Æ k)) (cv (Æ.length+1)) ?_ (by simp;omega) λk hk=>⟨[U (.str (lU na Æ 0 k))],rfl,?_⟩
 ·unfold Ý e2;show((ko (.str (alm na Æ 0)) (.str "\n")).bind _)=_;rw[sp];unfold cx;rw[df];rfl
 ·have hk:=cD.mp hk;rw[Pa h hk,Y0 (by unfold D7;simp) (Ŋ h hk) (by unfold D7;simp;omega)];unfold D7;rw[df];exact congrArg (λx=>U (cx x)) (LD h hk)
theorem Zz {xs:List Str}(h:∀x∈xs,cX.strOk x=Â)(neg:Bool):ga neg (cx xs) (cx xs)=U (.bl (!neg)):=by
 have:=(El Es).eq (by decide) (neg:=neg) (xs.pmap Subtype.mk h) (xs.pmap Subtype.mk h);have e:(El Es).enc (xs.pmap Subtype.mk h)=cx xs:=by show D.lst ((xs.pmap Subtype.mk h).map Es.enc)=_;rw[List.map_pmap];show D.lst (xs.pmap (λx _=>D.str x) h)=_;rw[List.pmap_eq_map];rfl
 rw[e]at this;rw[this];cases neg<;>simp
theorem ZA {t:Option Int}(h:∀v,t=U v->0<=v/\v<1000000000000000):eA [.str (wT t)]=U (ez t):=by
 cases t with
 |none=>exact YZ
 |some v=>obtain⟨h0,h1⟩:=h v rfl;obtain⟨n,rfl⟩:=eY h0;exact PZ (by omega)
theorem Xe (h:sC na Æ)(xG:na≠[]):jV [.str (alm na Æ 0),cx na,.int (Æ.length:Int)]=U (.lst (Æ.map lx)):=by
 have hr:=h.rl;have hn:=h.O.nl;have q3:=λr=>Zy h r;have ln:∀k,k<Æ.length+1->dX (.lst ((cv (Æ.length+1)).map λk=>cx (sZ na Æ k))) (.int (k:Int))=U (cx (sZ na Æ k)):=λk hk=>yc (by simp[hk]);have ll:ee [.lst ((cv (Æ.length+1)).map λk=>cx (sZ na Æ k))]=U (.int ((Æ.length:Int)+1)):=(ya _).trans (by simp);have l0:ee [cx na]=U (.int (na.length:Int)):=(ya _).trans (by simp);have a1:=Ho "round" na (by omega);have e1:=Zz (xs:=("round":Str)::na) (λx hx=>by
  rcases cu.mp hx with rfl|hx
  ·exact zw _
  ·exact En (h.nm x hx)) Â
 have x0:dX (.lst ((cv (Æ.length+1)).map λk=>cx (sZ na Æ k))) (.int 0)=U (cx (sZ na Æ 0)):=ln 0 (by omega);have w0:sZ na Æ 0=("round":Str)::na:=rfl;rw[w0]at x0;have rg:jS [.int (Æ.length:Int)]=U (lI 0 Æ.length):=by rw[xw (by omega) (by omega)];simp
 obtain⟨ρ',h1,y5,y6,rfl⟩:=w8 (g:=gV 5) (b:=mN) (lo:=0) (n:=Æ.length) (Z:=[U (.str (alm na Æ 0)),U (cx na),U (.int (Æ.length:Int)),U (.lst ((cv (Æ.length+1)).map λk=>cx (sZ na Æ k))),U (.lst []),L,L])
  (λk Z=>∃y5 y6,Z=[U (.str (alm na Æ 0)),U (cx na),U (.int (Æ.length:Int)),U (.lst ((cv (Æ.length+1)).map λk=>cx (sZ na Æ k))),U (.lst ((Æ.take k).map lx)),y5,y6]) ⟨L,L,rfl⟩ (by
   rintro k Z hk ⟨y5,y6,rfl⟩;have IT:k<Æ.length:=hk;have vS:Æ[k]?=U Æ[k]:=dh IT;have hl:=(h.O.r _ (gW IT)).1;have ht:=h.tm _ (gW IT);generalize Æ[k]=row at *;have wk:sZ na Æ (k+1)=iJ 48 (dn (k:Int)) 5::row.map wT:=by show _::(Æ.getD k []).map wT=_;rw[cN,vS];rfl
   have xk:=ln (k+1) (by omega);rw[wk]at xk;have il:=KR (n:=k) (by omega);have n0:eA [.str (iJ 48 (dn (k:Int)) 5)]=U (.int (k:Int)):=YY (by omega) (by omega);refine⟨_,_,rfl,.inl ?_,U (.int (0+(k:Int))),U (.lst (.int (k:Int)::row.map ez)),rfl⟩;have tk:(Æ.take (k+1)).map lx=(Æ.take k).map lx++[lx row]:=by rw[tN,vS,fV];rfl
   rw[tk];have q1:pD [U (.str (alm na Æ 0)),U (cx na),U (.int (Æ.length:Int)),U (.lst ((cv (Æ.length+1)).map λk=>cx (sZ na Æ k))),U (.lst ((Æ.take k).map lx)),U (.int (0+(k:Int))),y6]=U (.lst (.int (k:Int)::row.map ez)):=by
    have:=zt (fi:=Ý (e2 dX (C 3) (e2 dF (C 5) (eC (.int 1))))) (own:=1) (cap:=[]) (g:=gV 0) (f:=cl eA (Ä (C 0) Å)) (r:=[U (.str (alm na Æ 0)),U (cx na),U (.int (Æ.length:Int)),U (.lst ((cv (Æ.length+1)).map λk=>cx (sZ na Æ k))),U (.lst ((Æ.take k).map lx)),U (.int (0+(k:Int))),y6]) (λp:Str×D=>D.str p.1) (λp=>p.2) ((iJ 48 (dn (k:Int)) 5,D.int (k:Int))::row.map λt=>(wT t,ez t)) ?_ (by simp;omega) λp hp=>⟨[U (.str p.1)],rfl,?_⟩
    ·refine this.trans ?_;rw[cL,df];rfl
    ·unfold Ý e2;show((dX (.lst ((cv (Æ.length+1)).map λk=>cx (sZ na Æ k))) (.int (0+(k:Int)+1))).bind _)=_;rw[show(0:Int)+(k:Int)+1=((k+1:Nat):Int)by omega,xk];unfold cx;show U (List.map D.str (_::_))=_;rw[cL,cL,df,df];rfl
    ·show eA [.str p.1]=_;rcases cu.mp hp with rfl|hp
     ·exact n0
     ·obtain⟨t,Jg,rfl⟩:=cO.mp hp;exact ZA λv e=>ht v (e▸Jg)
   have l6:ee [.lst (.int (k:Int)::row.map ez)]=U (.int ((na.length:Int)+1)):=(ya _).trans (by simp[hl]);have x6:dX (.lst (.int (k:Int)::row.map ez)) (.int 0)=U (.int (0+(k:Int))):=by rw[og];exact yc (j:=0) rfl
   have in6:ð Ã (.int (-1)) (.lst (.int (k:Int)::row.map ez))=U (.bl Ã):=by
    have sc:(D.int (k:Int)::row.map ez).all D.sc=Â:=by rw[fq];show(Â&&_)=Â;rw[uG,dE];intro d hd;obtain⟨t,_,rfl⟩:=cO.mp hd;cases t<;>rfl
    show(if(D.int (-1)).sc=Â/\_ then _ else _)=_;rw[if_pos ⟨rfl,sc⟩];have:yB (.int (-1)) (.int (k:Int)::row.map ez)=Ã:=by
     unfold yB;rw[qJ];intro d hd z;rcases cu.mp hd with rfl|hd
     ·have:(k:Int) = -1:=by simpa[Ct]using z
      omega
     ·obtain⟨t,Jg,rfl⟩:=cO.mp hd;cases t with
      |none=>cases z
      |some v=>
       have:=ht v Jg;have:v = -1:=by simpa[ez,Ct]using z
       omega
    rw[this];rfl
   have sl6:d7 (.lst (.int (k:Int)::row.map ez)) (U 1) L=U (lx row):=by show U (D.lst (á _ (U ((1:Nat):Int)) L))=_;rw[xo];rfl
   have iu:((Æ.take k).map lx).length<16777216:=by simp;omega
   generalize (.int (k:Int)::row.map ez)=L6,(0+(k:Int))=z5,lx row=RD,(Æ.take k).map lx=L4,((cv (Æ.length+1)).map λk=>cx (sZ na Æ k))=L3,cx na=L2,alm na Æ 0=A at *;clear n0 xk wk il ht hl vS tk e1 a1 x0 rg q3 ln ll h;unfold mN;walk_at "mid")
 rw[rO]at h1;have Mu:=q3 [U (cx na),U (.int (Æ.length:Int)),L,L,L,L];generalize Æ.map lx=RS,((cv (Æ.length+1)).map λk=>cx (sZ na Æ k))=L3,cx (("round":Str)::na)=L1,cx na=L2,alm na Æ 0=A,lI 0 Æ.length=ϔ,(Æ.length:Int)=n at *;clear h hr hn xG q3 ln w0 l0;unfold jV;walk_at "mid"
theorem N1 {α ϙ:Type}{g:D->L3.Env->Option L3.Env}{b:SF}(enc:α->D)(I:ϙ->L3.Env->Prop)(f:ϙ->α->ϙ):∀(xs:List α) (s:ϙ) (Z:L3.Env),I s Z->(∀x∈xs,∀s Z,I s Z->∃ρ1 ρ2,g (enc x) Z=U ρ1/\b ρ1=U (.nx ρ2)/\I (f s x) ρ2) ->
  ∃ρ',gX g b (xs.map enc) Z=U (.nx ρ')/\I (xs.foldl f s) ρ'
 |[],s,Z,h,_=>⟨Z,rfl,h⟩
 |x::xs,s,Z,h,st=>by
  obtain⟨ρ1,ρ2,h1,h2,h3⟩:=st x cg s Z h;have Ai:gX g b ((x::xs).map enc) Z=(g (enc x) Z).bind λρ1=>(b ρ1).bind λo=>match o with
    |.nx ρ'=>gX g b (xs.map enc) ρ'
    |.ct ρ'=>gX g b (xs.map enc) ρ'
    |.bk ρ'=>U (.nx ρ')
    |.rt d=>U (.rt d):=rfl
  rw[Ai,h1,dN,h2];exact N1 enc I f xs _ ρ2 h3 λy hy=>st y (ck _ hy)
def dw (a:gx):D:=.tup [.str (hG a.c),.int (a.s:Int),.int (a.g:Int),.int a.t,.int (a.b:Int)]
theorem N2 {α ϙ:Type}(p:α->Bool)(f:ϙ->α->ϙ):∀(xs:List α) (s:ϙ),xs.foldl (λs a=>if p a=Â then f s a else s) s=(xs.filter p).foldl f s
 |[],s=>rfl
 |x::xs,s=>by
  rw[iy,N2 p f xs,rM];by_cases h:p x=Â
  ·rw[if_pos h,if_pos h];rfl
  ·rw[if_neg h,if_neg h]
theorem ĭ (A rs:D)(g w:Int)(s:T)(c:Str)(st gl t b:Int)(uF:Option D)(f:T)(h1:b<=w->∃row,dX rs (.int (w-b))=U row/\dX row (.int st)=U (ez f))(h2:¬b<=w->f=U 0) :
  ∃z,jU [U A,U rs,sI g,sI w,U (ez s),U (.str c),sI st,sI gl,sI t,sI b,uF]=U (.nx [U A,U rs,sI g,sI w,U (ez (if gl=g then mx s (lt t f)else s)),U (.str c),sI st,sI gl,sI t,sI b,z]):=by
 by_cases hg:gl=g
 ·rw[if_pos hg];refine⟨U (ez f),?_⟩;have one:Ò (tb (e2 Cv (C 3) (C 9))) (Ì 10 (e2 dX (e2 dX (C 1) (e2 nc (C 3) (C 9))) (C 6))) É [U A,U rs,sI g,sI w,U (ez s),U (.str c),sI st,sI gl,sI t,sI b,sI 0]=U (.nx [U A,U rs,sI g,sI w,U (ez s),U (.str c),sI st,sI gl,sI t,sI b,U (ez f)]):=by
   by_cases hb:b<=w
   ·obtain⟨row,r1,r2⟩:=h1 hb;clear h1 h2;walk_at "mid"
   ·have:=h2 hb;subst this;clear h1 h2;have:ez (U 0)=.int 0:=rfl;walk_at "mid"
  clear h1 h2;have Ö:jU [U A,U rs,sI g,sI w,U (ez s),U (.str c),sI st,sI gl,sI t,sI b,uF]=(Ò (ß (tb (e2 (pQ Â) (C 10) (eC .non))) (å (tb (e2 (pQ Ã) (C 4) (eC .non))) (tb (e2 wM (e2 dF (C 10) (C 8)) (C 4))))) (Ì 4 (e2 dF (C 10) (C 8))) É) [U A,U rs,sI g,sI w,U (ez s),U (.str c),sI st,sI gl,sI t,sI b,U (ez f)]:=by subst hg;unfold jU;generalize Ò (tb (e2 Cv (C 3) (C 9))) (Ì 10 (e2 dX (e2 dX (C 1) (e2 nc (C 3) (C 9))) (C 6))) É=x at one ⊢;generalize Ò (ß _ _) _ É=y;walk_at "mid"
  rw[Ö];clear one Ö;cases f with
  |none=>rw[show mx s (lt t L)=s by cases s<;>rfl];generalize ez s=es;simp only[ez];walk_at "mid"
  |some u=>
   cases s with
   |none=>simp only[ez,mx,lt]at *;walk_at "mid"
   |some v=>
    by_cases hv:u+t > v
    ·simp only[ez,mx,lt,if_pos hv]at *;walk_at "mid"
    ·simp only[ez,mx,lt,if_neg hv]at *;walk_at "mid"
 ·unfold jU;rw[if_neg hg];refine⟨uF,?_⟩;clear h1 h2;walk_at "mid"
theorem ŉ (hs:∀a∈J,a.s<mv)(h0:∀i,i<dep J->∀g,g<mv->Ϛ i g=U 0){g w:Nat}(hw:w<R) :
  o7 [.lst (J.map dw),.lst (dC mv R λr g=>Ϛ (dep J+r) g),.int (g:Int),.int (w:Int)]=U (ez (tm J Ϛ (dep J+w) g L)):=by
 obtain⟨ρ',h1,y5,y6,y7,y8,y9,uF,rfl⟩:=N1 (g:=gT (È (gV 5) (È (gV 6) (È (gV 7) (È (gV 8) (È (gV 9) Ô)))))) (b:=jU) dw
  (λ(s:T) Z=>∃y5 y6 y7 y8 y9 uF,Z=[sL (J.map dw),sL (dC mv R λr g=>Ϛ (dep J+r) g),sI (g:Int),sI (w:Int),U (ez s),y5,y6,y7,y8,y9,uF])
  (λs a=>if decide (a.g=g)=Â then mx s (lt a.t (Ϛ (dep J+w-a.b) a.s))else s) J L [sL (J.map dw),sL (dC mv R λr g=>Ϛ (dep J+r) g),sI (g:Int),sI (w:Int),U (ez L),L,L,L,L,L,L] ⟨L,L,L,L,L,L,rfl⟩ (by
   rintro a ha s Z ⟨y5,y6,y7,y8,y9,uF,rfl⟩;have hb:=vn ha;obtain⟨z,hz⟩:=ĭ (.lst (J.map dw)) (.lst (dC mv R λr g=>Ϛ (dep J+r) g)) (g:Int) (w:Int) s (hG a.c) (a.s:Int) (a.g:Int) a.t (a.b:Int) uF (Ϛ (dep J+w-a.b) a.s) (λRU=>by have r1:=O4 (mv:=mv) (m:=R) (Ϛ:=λr g=>Ϛ (dep J+r) g) (i:=w-a.b) (g:=a.s) (by omega) (hs a ha);rw[show((w-a.b:Nat):Int)=(w:Int)-(a.b:Int)by omega,show dep J+(w-a.b)=dep J+w-a.b by omega]at r1;exact⟨_,r1⟩) (λRU=>h0 _ (by omega) _ (hs a ha));have e:(if(a.g:Int)=(g:Int)then mx s (lt a.t (Ϛ (dep J+w-a.b) a.s))else s)=(if decide (a.g=g)=Â then mx s (lt a.t (Ϛ (dep J+w-a.b) a.s))else s):=by
    by_cases hg:a.g=g
    ·rw[if_pos (by omega),if_pos (decide_eq_true hg)]
    ·rw[if_neg (by omega),if_neg (by simpa using hg)]
   rw[e]at hz;exact⟨_,_,rfl,hz,_,_,_,_,_,_,rfl⟩)
 have e:J.foldl (λs a=>if decide (a.g=g)=Â then mx s (lt a.t (Ϛ (dep J+w-a.b) a.s))else s) L=tm J Ϛ (dep J+w) g L:=N2 _ _ _ _;rw[e]at h1;generalize dC mv R (λr g=>Ϛ (dep J+r) g)=RS,J.map dw=A,ez (tm J Ϛ (dep J+w) g L)=V at *;clear hs h0 hw e;unfold o7;have e0:ez L=D.non:=rfl;rw[e0]at h1;walk_at "mid"
theorem ň (ok:gY mv J)(h:ó J mv (dep J) R (λ_ _=>U 0) (λ_ _=>L) Ϛ)(hR:R<=1000){N:List D}(hN:N.length=mv) :
  lO [.lst (J.map dw),.lst N,.lst (dC mv R λr g=>Ϛ (dep J+r) g)]=U (.bl Â):=by
 have hm:=ok.le;have l1:ee [.lst N]=sI (mv:Int):=(ya _).trans (by rw[hN]);have l2:ee [.lst (dC mv R λr g=>Ϛ (dep J+r) g)]=sI (R:Int):=(ya _).trans (by rw[v7]);have g1:jS [.int (mv:Int)]=U (lI 0 mv):=by rw[xw (by omega) (by omega)];simp
 have g2:jS [.int (R:Int)]=U (lI 0 R):=by rw[xw (by omega) (by omega)];simp
 obtain⟨ρ',h1,y3,y4,rfl⟩:=w8 (g:=gV 3) (b:=oF) (lo:=0) (n:=R) (Z:=[sL (J.map dw),sL N,sL (dC mv R λr g=>Ϛ (dep J+r) g),L,L])
  (λk Z=>∃y3 y4,Z=[sL (J.map dw),sL N,sL (dC mv R λr g=>Ϛ (dep J+r) g),y3,y4]) ⟨L,L,rfl⟩ (by
   rintro w Z hw ⟨y3,y4,rfl⟩;obtain⟨ρ2,h2,z4,rfl⟩:=w8 (g:=gV 4) (b:=oE) (lo:=0) (n:=mv) (Z:=[sL (J.map dw),sL N,sL (dC mv R λr g=>Ϛ (dep J+r) g),sI (0+(w:Int)),y4])
    (λk Z=>∃y4,Z=[sL (J.map dw),sL N,sL (dC mv R λr g=>Ϛ (dep J+r) g),sI (0+(w:Int)),y4]) ⟨y4,rfl⟩ (by rintro g Z hg ⟨y4,rfl⟩;refine⟨_,_,rfl,.inl ?_,sI (0+(g:Int)),rfl⟩;have d:=ŉ (J:=J) (mv:=mv) (R:=R) (Ϛ:=Ϛ) (g:=g) (w:=w) (λa ha=>(ok.right a ha).s) (λi hi g hg=>h.past i hi g hg) hw;rw[←h.rc w hw g hg]at d;obtain⟨r1,r2⟩:=O4 (mv:=mv) (m:=R) (Ϛ:=λr g=>Ϛ (dep J+r) g) (i:=w) (g:=g) hw hg;have e:ga Â (ez (Ϛ (dep J+w) g)) (ez (Ϛ (dep J+w) g))=U (.bl Ã):=(YU _ _).trans (by simp);rw[show(0:Int)+(w:Int)=(w:Int)by omega,show(0:Int)+(g:Int)=(g:Int)by omega];generalize kr mv (λg=>Ϛ (dep J+w) g)=RW,dC mv R (λr g=>Ϛ (dep J+r) g)=RS,J.map dw=A,ez (Ϛ (dep J+w) g)=V at *;clear ok h l1 l2 g1 g2;unfold oE;walk_at "mid")
   refine⟨_,_,rfl,.inl ?_,sI (0+(w:Int)),z4,rfl⟩;generalize dC mv R (λr g=>Ϛ (dep J+r) g)=RS,J.map dw=A,(0+(w:Int))=w0,lI 0 mv=ϔ at *;clear ok h l2 g2;unfold oF;walk_at "mid")
 generalize dC mv R (λr g=>Ϛ (dep J+r) g)=RS,J.map dw=A,lI 0 R=ϔ at *;clear ok h l1 g1;unfold lO;walk_at "mid"
theorem Xf (mv:Nat)(X ϕ:Nat->Int):oQ (eU mv X) (eU mv ϕ)=(cv mv).map λg=>.tup [.int (X g),.int (ϕ g)]:=ji (λg=>D.int (X g)) (λg=>D.int (ϕ g)) (cv mv)
variable {most:Nat}
section
variable {c f:Nat}
theorem HF {w:Str}(hL:∀g,g<mv->0<=Ϝ g/\Ϝ g<=1000000000000)(hc:c<=1000)(hf:f<=1000)(hw:w∈pv c f mv Ϝ):∃n:Nat,w=dn (n:Int)/\n<=1000000000000:=by
 rcases cu.mp hw with rfl|hw
 ·exact⟨c,rfl,by omega⟩
 rcases cu.mp hw with rfl|hw
 ·exact⟨f,rfl,by omega⟩
 obtain⟨g,hg,rfl⟩:=cO.mp hw;obtain⟨h0,h1⟩:=hL g (cD.mp hg);obtain⟨n,e⟩:=eY h0;exact⟨n,by rw[e],by omega⟩
def rC (c f mv:Nat)(Ϝ:Nat->Int):List Int:=(c:Int)::(f:Int)::(cv mv).map Ϝ
theorem ZC (hL:∀g,g<mv->0<=Ϝ g/\Ϝ g<=1000000000000)(hc:c<=1000)(hf:f<=1000)(hm:mv<=10)(r:L3.Env):pC (U (.str (Str.join (eX 32) (pv c f mv Ϝ)))::r)=sL ((rC c f mv Ϝ).map .int):=by
 have sp:ko (.str (Str.join (eX 32) (pv c f mv Ϝ))) (.str " ")=U (cx (pv c f mv Ϝ)):=by
  rw[CS];refine HA (b:=20) (by unfold pv;simp) (λw hw=>?_) (λw hw=>?_) (by unfold pv;simp;omega)
  ·obtain⟨n,rfl,_⟩:=HF hL hc hf hw;exact Gf (by decide)
  ·obtain⟨n,rfl,hn⟩:=HF hL hc hf hw;have:=NK (n:=n) (by omega);omega
 have ew:pv c f mv Ϝ=(rC c f mv Ϝ).map dn:=by unfold pv rC;rw[cL,cL,df];rfl
 refine zt (λz:Int=>D.str (dn z)) (λz=>D.int z) (rC c f mv Ϝ) ?_ (by unfold rC;simp;omega) λz hz=>⟨[U (.str (dn z))],rfl,?_⟩
 ·unfold Ý e2;show((ko (.str (Str.join (eX 32) (pv c f mv Ϝ))) (.str " ")).bind _)=_;rw[sp,ew];unfold cx;rw[df];rfl
 ·show eA [.str (dn z)]=_;have:∃n:Nat,z=(n:Int)/\n<=1000000000000:=by
   rcases cu.mp hz with rfl|hz
   ·exact⟨c,rfl,by omega⟩
   rcases cu.mp hz with rfl|hz
   ·exact⟨f,rfl,by omega⟩
   obtain⟨g,hg,rfl⟩:=cO.mp hz;obtain⟨h0,h1⟩:=hL g (cD.mp hg);obtain⟨n,e⟩:=eY h0;exact⟨n,e,by omega⟩
  obtain⟨n,rfl,hn⟩:=this;exact PZ (by omega)
theorem Pb {zs:List Int}{d:D}(hd:d.sc=Â)(h:∀z∈zs,Ct (.int z) d=Ã):ð Ã d (.lst (zs.map .int))=U (.bl Ã):=by
 have sc:(zs.map D.int).all D.sc=Â:=by rw[dE];intro x hx;obtain⟨z,_,rfl⟩:=cO.mp hx;rfl
 show(if d.sc=Â/\_ then _ else _)=_;rw[if_pos ⟨hd,sc⟩];have:yB d (zs.map .int)=Ã:=by unfold yB;rw[qJ];intro x hx;obtain⟨z,hz,rfl⟩:=cO.mp hx;rw[h z hz];exact cI
 rw[this];rfl
theorem Ň (hL:∀g,g<mv->0<=Ϝ g/\Ϝ g<=1000000000000):∀z∈rC c f mv Ϝ,0<=z:=by
 intro z hz;rcases cu.mp hz with rfl|hz
 ·omega
 rcases cu.mp hz with rfl|hz
 ·omega
 obtain⟨g,hg,rfl⟩:=cO.mp hz;exact(hL g (cD.mp hg)).1
theorem ZD (A B ϛ E:D):gG [.str "none",A,B,ϛ,E]=U (.bl Â):=by have e:ga Ã (.str "none") (.str "none")=U (.bl Â):=(xh (zw _) (zw _)).trans (by simp);unfold gG;walk_at "mid"
end
section
variable {c f:Nat}
theorem Xg (hl:J.length<=1000)(hL:∀g,g<mv->0<=Ϝ g/\Ϝ g<=1000000000000)(hm:mv<=10)(hR:R<=1000)(hc:1<=c)(AG:c+f+dep J<=most)(hb:most<=1000)(JI:∀m g,f<=m->m+c<R->g<mv->X (m+c) g=X m g+Ϝ g) :
  gG [.str (Str.join (eX 32) (pv c f mv Ϝ)),.lst (J.map dw),.lst (dB mv R X),.int (most:Int),.int (mv:Int)]=U (.bl Â):=by
 have q3:=λr=>ZC (c:=c) (f:=f) (Ϝ:=Ϝ) (mv:=mv) hL (by omega) (by omega) hm r;have ne:ga Ã (.str (Str.join (eX 32) (pv c f mv Ϝ))) (.str "none")=U (.bl Ã):=by
  have hf:∀w∈pv c f mv Ϝ,oV 110 w:=λw hw=>by obtain⟨n,rfl,_⟩:=HF hL (by omega) (by omega) hw;intro z;have:=uu z;omega
  have hk:cX.strOk (Str.join (eX 32) (pv c f mv Ϝ))=Â:=by rw[←CS];refine K4 (zw _) λw hw=>?_;obtain⟨n,rfl,_⟩:=HF hL (by omega) (by omega) hw;exact DG _
  rw[xh hk (zw _),decide_eq_false λe=>?_];rfl;have fr:=KH (c:=110) (d:=32) (by decide) hf;rw[e]at fr;exact fr (by decide +kernel)
 have l5:ee [.lst ((rC c f mv Ϝ).map .int)]=sI ((mv:Int)+2):=(ya _).trans (by unfold rC;simp;omega);have i1:ð Ã (.int (-1)) (.lst ((rC c f mv Ϝ).map .int))=U (.bl Ã):=Pb rfl λz hz=>by have:=Ň hL z hz;show(z == -1)=Ã;simp;omega
 have i2:ð Ã .non (.lst ((rC c f mv Ϝ).map .int))=U (.bl Ã):=Pb rfl λz hz=>rfl;have x0:dX (.lst ((rC c f mv Ϝ).map .int)) (.int 0)=sI (c:Int):=yc (j:=0) rfl;have s1:d7 (.lst ((rC c f mv Ϝ).map .int)) L (U 2)=U (.lst [.int (c:Int),.int (f:Int)]):=by show U (D.lst (á _ L (U ((2:Nat):Int))))=_;rw[Kh];rfl
 have s2:d7 (.lst ((rC c f mv Ϝ).map .int)) (U 2) L=sL (eU mv Ϝ):=by show U (D.lst (á _ (U ((2:Nat):Int)) L))=_;rw[xo];unfold rC eU;rw[cL,cL,df];rfl
 have q2:∀r,kR (r::(sL (J.map dw))::[])=kR (r::(sL (J.map dw))::[]):=λ_=>rfl;have qb:∀(x:Option D) (r:L3.Env),kR (x::(sL (J.map dw))::r)=sL (J.map λa=>D.int (a.b:Int)):=λx r=>zt dw (λa=>D.int (a.b:Int)) J rfl (by omega) λa ha=>⟨[U (dw a)],rfl,rfl⟩;obtain⟨m1,m2⟩:=ř (J:=J) hl;have lr:ee [.lst (dB mv R X)]=sI (R:Int):=(ya _).trans (by rw[NI]);have c1:¬((c:Int)<1):=by omega
 have c2:¬((c:Int)+(f:Int)+(dep J:Int) > (most:Int)):=by omega
 have rg:rZ [.int (f:Int),.int ((R:Int)-(c:Int))]=U (lI (f:Int) (R-c-f)):=by rw[u8 (by omega) (by omega) (by omega) (by omega)];congr 2;omega
 obtain⟨ρ',h1,y9,rfl⟩:=w8 (g:=gV 9) (b:=mM) (lo:=(f:Int)) (n:=R-c-f) (Z:=[U (.str (Str.join (eX 32) (pv c f mv Ϝ))),sL (J.map dw),sL (dB mv R X),sI (most:Int),sI (mv:Int),sL ((rC c f mv Ϝ).map .int),sI (c:Int),sI (f:Int),sL (eU mv Ϝ),L])
  (λk Z=>∃y9,Z=[U (.str (Str.join (eX 32) (pv c f mv Ϝ))),sL (J.map dw),sL (dB mv R X),sI (most:Int),sI (mv:Int),sL ((rC c f mv Ϝ).map .int),sI (c:Int),sI (f:Int),sL (eU mv Ϝ),y9]) ⟨L,rfl⟩ (by
   rintro k Z hk ⟨y9,rfl⟩;refine⟨_,_,rfl,.inl ?_,sI ((f:Int)+(k:Int)),rfl⟩;have r1:=ud (n:=mv) (X:=X) (i:=f+k) (m:=R) (by omega);have r2:=ud (n:=mv) (X:=X) (i:=f+k+c) (m:=R) (by omega);rw[show((f+k+c:Nat):Int)=(f:Int)+(k:Int)+(c:Int)by omega]at r2;rw[show((f+k:Nat):Int)=(f:Int)+(k:Int)by omega]at r1;have q1:pB [U (.str (Str.join (eX 32) (pv c f mv Ϝ))),sL (J.map dw),sL (dB mv R X),sI (most:Int),sI (mv:Int),sL ((rC c f mv Ϝ).map .int),sI (c:Int),sI (f:Int),sL (eU mv Ϝ),sI ((f:Int)+(k:Int))]=sL (eU mv λg=>X (f+k+c) g):=by
    have e:(λZ:L3.Env=>((Ä (e2 dX (C 2) (C 9)) (Ä (C 8) Å)) Z).bind zS) [U (.str (Str.join (eX 32) (pv c f mv Ϝ))),sL (J.map dw),sL (dB mv R X),sI (most:Int),sI (mv:Int),sL ((rC c f mv Ϝ).map .int),sI (c:Int),sI (f:Int),sL (eU mv Ϝ),sI ((f:Int)+(k:Int))]=U ((cv mv).map λg=>.tup [.int (X (f+k) g),.int (Ϝ g)]):=by show((e2 dX (C 2) (C 9) [U (.str (Str.join (eX 32) (pv c f mv Ϝ))),sL (J.map dw),sL (dB mv R X),sI (most:Int),sI (mv:Int),sL ((rC c f mv Ϝ).map .int),sI (c:Int),sI (f:Int),sL (eU mv Ϝ),sI ((f:Int)+(k:Int))]).bind λx=>U [x,.lst (eU mv Ϝ)]).bind zS=_;have:e2 dX (C 2) (C 9) [U (.str (Str.join (eX 32) (pv c f mv Ϝ))),sL (J.map dw),sL (dB mv R X),sI (most:Int),sI (mv:Int),sL ((rC c f mv Ϝ).map .int),sI (c:Int),sI (f:Int),sL (eU mv Ϝ),sI ((f:Int)+(k:Int))]=sL (eU mv (X (f+k))):=r1;rw[this];show U (oQ (eU mv (X (f+k))) (eU mv Ϝ))=_;rw[Xf]
    refine(zt (λg:Nat=>D.tup [.int (X (f+k) g),.int (Ϝ g)]) (λg=>D.int (X (f+k+c) g)) (cv mv) e (by simp;omega) λg hg=>⟨[sI (X (f+k) g),sI (Ϝ g)],rfl,?_⟩).trans rfl;rw[JI (f+k) g (by omega) (by omega) (cD.mp hg)];rfl
   have eq:ga Â (.lst (eU mv (X (f+k+c)))) (.lst (eU mv λg=>X (f+k+c) g))=U (.bl Ã):=(Lp Â mv _ _).trans (by simp);generalize (eU mv λg=>X (f+k+c) g)=v2,eU mv (X (f+k+c))=v1,eU mv Ϝ=vL,dB mv R X=RS,(rC c f mv Ϝ).map D.int=NS,J.map dw=A,((f:Int)+(k:Int))=z,Str.join (eX 32) (pv c f mv Ϝ)=ϙ at *;clear hL JI q3 ne l5 i1 i2 x0 s1 s2 q2 qb m1 m2 lr rg;unfold mM;walk_at "mid")
 have Mu:=q3 [sL (J.map dw),sL (dB mv R X),sI (most:Int),sI (mv:Int),L,L,L,L,L];have qb':=qb (U (.str (Str.join (eX 32) (pv c f mv Ϝ)))) [sL (dB mv R X),sI (most:Int),sI (mv:Int),sL ((rC c f mv Ϝ).map .int),sI (c:Int),sI (f:Int),sL (eU mv Ϝ),L];have sa:í (gL (È (gV 6) (È (gV 7) Ô))) (λZ=>((C 5) Z).bind λd=>(î Z).bind λl=>((Û (eC (.int 2))) Z).bind λh=>d7 d l h) [U (.str (Str.join (eX 32) (pv c f mv Ϝ))),sL (J.map dw),sL (dB mv R X),sI (most:Int),sI (mv:Int),sL ((rC c f mv Ϝ).map .int),L,L,L,L]=U (.nx [U (.str (Str.join (eX 32) (pv c f mv Ϝ))),sL (J.map dw),sL (dB mv R X),sI (most:Int),sI (mv:Int),sL ((rC c f mv Ϝ).map .int),sI (c:Int),sI (f:Int),L,L]):=by unfold í;show((d7 (.lst ((rC c f mv Ϝ).map .int)) L (U 2)).bind _)=_;rw[s1];rfl
 generalize (J.map λa=>D.int (a.b:Int))=BS,eU mv Ϝ=vL,dB mv R X=RS,(rC c f mv Ϝ).map D.int=NS,J.map dw=A,Str.join (eX 32) (pv c f mv Ϝ)=ϙ,lI (f:Int) (R-c-f)=ϔ,(dep J:Int)=dp at *;generalize [D.int 1]++BS=BS1 at *;clear hL JI q3 q2 qb s1 hl hm hR hc AG hb;unfold gG;generalize í (gL (È (gV 6) (È (gV 7) Ô))) (λZ=>((C 5) Z).bind λd=>(î Z).bind λl=>((Û (eC (.int 2))) Z).bind λh=>d7 d l h)=SA at *;walk_at "mid"
end
def Ek:oA Kd:=⟨λk=>.str (hG k),λk=>.str (hG k),0,λ_=>by simp[D.py],λk=>by cases k<;>decide +kernel,λ_=>by simp[cX.depth],λx y=>by show(hG x==hG y)=_;cases x<;>cases y<;>decide +kernel⟩
def Er:oA (Kd×Int×Int×Int×Int):=⟨λp=>.tup [Ek.enc p.1,.int p.2.1,.int p.2.2.1,.int p.2.2.2.1,.int p.2.2.2.2],λp=>.tuple [Ek.py p.1,Ei.py p.2.1,Ei.py p.2.2.1,Ei.py p.2.2.2.1,Ei.py p.2.2.2.2],1,λp=>by simp[D.py,D.pys,Ek.is,Ei],λp=>by simp[cX.canLay0,cX.canLayAll0,Ek.lay,Ei.lay],
 λp=>by have:=Ek.dp p.1;simp only[cX.depth,cX.depthAll,Ei];simp only[Ek]at *;omega,λp q=>by simp only[cX.eqv,cX.eqvAll,Ek.eqv,Ei.eqv];obtain⟨a,b,c,d,e⟩:=p;obtain⟨a',b',c',d',e'⟩:=q;by_cases h:a=a'<;>by_cases g:b=b'<;>by_cases k:c=c'<;>by_cases l:d=d'<;>by_cases m:e=e'<;>simp[h,g,k,l,m]⟩
theorem ZE (neg:Bool)(J:List gx):ga neg (.lst (J.map dw)) (.lst [])=U (.bl (if neg then !decide (J=[])else decide (J=[]))):=by
 have:=(El Er).eq (by decide) (neg:=neg) (J.map λa=>(a.c,(a.s:Int),(a.g:Int),a.t,(a.b:Int))) [];have e1:(El Er).enc (J.map λa=>(a.c,(a.s:Int),(a.g:Int),a.t,(a.b:Int)))=.lst (J.map dw):=by show D.lst _=_;rw[df];rfl
 rw[e1]at this;rw[show D.lst []=(El Er).enc []from rfl,this];cases J<;>rfl
theorem ZF (x:Str):("run ":Str)++x=Str.join (eX 32) ["run",x]:=by apply wp;rw[yp,join_list];show("run ":Str).cps.toList++_=("run":Str).cps.toList++32::x.cps.toList;rw[show("run ":Str).cps.toList=("run":Str).cps.toList++[32]by decide +kernel,dR];rfl
theorem Wn (x:Str):("again ":Str)++x=Str.join (eX 32) ["again",x]:=by apply wp;rw[yp,join_list];show("again ":Str).cps.toList++_=("again":Str).cps.toList++32::x.cps.toList;rw[show("again ":Str).cps.toList=("again":Str).cps.toList++[32]by decide +kernel,dR];rfl
theorem ZG {f:SF}{g:EM}{d:D}{n:Int}{r:L3.Env}(h:f (U (dk nt tb pt n)::r)=U (.rt d)):sP f g (U (dk nt tb pt n)::r)=U (d,U (dk nt tb pt n)::r):=by unfold sP dk;unfold dk at h;dsimp only;rw[h];rfl
theorem ZH {f:SF}{g:EM}{n:Int}{r r':L3.Env}{p:Option D}(h:f (U (dk nt tb pt n)::r)=U (.nx (p::r')))(hn:qU r'=Â):sP f g (U (dk nt tb pt n)::r)=g (p::r'):=by unfold sP dk;unfold dk at h;dsimp only;rw[h];show(if qU r'=Â then g (p::r')else L)=_;rw[if_pos hn]
variable {ρ':L3.Env}
theorem Qh {f:SF}{g:EM}(h:f Z=U (.nx ρ')):â f g Z=g ρ':=by unfold â;rw[h];rfl
theorem R8 {N:List Str}{b:EM}{r:L3.Env}{d p:D}(hs:Ñ N S = Z)(h:b Z=U (d,U p::r)):ë 0 N b S=U (.tup [d,p]):=by unfold ë;rw[hs,h];rfl
theorem ņ {gm:EM}{x d:D}{es:List D}(h1:gm Z=U (x,ρ'))(h2:gs ρ'=U es)(h3:mf (x::es)=U d):p9 gm gs mf Z=U (d,ρ'):=by unfold p9;rw[h1];show((gs ρ').bind _)=_;rw[h2];show((mf (x::es)).bind _)=_;rw[h3];rfl
theorem Qi {g:D->L3.Env->Option L3.Env}{b:SF}(h:fi Z=U S):Ø fi g b Z=gX g b S Z:=by unfold Ø;rw[h];rfl
section
variable {n:Int}
theorem ZI (hl:J.length<=1000)(g:Nat)(r:L3.Env)(h1:r[1]?=U (sL (J.map dw)))(h6:r[6]?=U (sI (g:Int))):qD r=sL ((J.filter λa=>decide (a.g=g)).map dw):=by
 have hc:iB r [6]=[sI (g:Int)]:=by unfold iB;simp[h6]
 refine v6 dw (λa=>decide (a.g=g)) dw J ?_ (by omega) λa ha=>⟨[U (dw a),sI (g:Int)],by rw[hc];rfl,?_,λ_=>rfl⟩
 ·unfold Ý;show((r[1]?.join).bind _)=_;rw[h1];rfl
 ·have x2:dX (dw a) (.int 2)=sI (a.g:Int):=yc (j:=2) rfl;show(((dX (dw a) (.int 2)).bind λx=>ga Ã x (.int (g:Int))).bind xB)=_;rw[x2];show((ga Ã (.int (a.g:Int)) (.int (g:Int))).bind xB)=_;rw[ul];by_cases hg:a.g=g
  ·simp[hg,xB]
  ·have:¬(a.g:Int)=(g:Int):=by omega
   simp[hg,this,xB]
theorem ZJ (F:Bh na J)(hR:R<=80)(IX:1<=most)(hm:most<=60):∃n',gM [dk (cJ (na.map .str) J) tbl pt n,.lst (J.map dw),cx na,.int (R:Int),.int (most:Int)]=U (.tup [.bl Â,dk (cJ (na.map .str) J) tbl pt n']):=by
 have ox:=F.le;have DY:=F.ok.len;obtain⟨Ϛ,hr,s1⟩:=Zq (tbl:=tbl) (pt:=pt) (n:=n) F hR;have hd:dep J<=4:=Et λa ha=>(F.ok.right a ha).b;have O:=F.alm hR hr;have FU:(oO na.length R λr g=>Ϛ (dep J+r) g).length=R:=by unfold oO;simp
 have G8:sC na (oO na.length R λr g=>Ϛ (dep J+r) g):=⟨O,F.nm.ok,λrow vS v hv=>by
  obtain⟨i,hi,rfl⟩:=cO.mp vS;obtain⟨g,hg,e⟩:=cO.mp hv;have hi:=cD.mp hi;have hg:=cD.mp hg;have:=hr.bd F.ok F.le F.up F.t (dep J+i) g (by omega) hg v e
  omega,by rw[FU];exact hR⟩
 have t1:=Xe G8 F.ne;rw[FU,O6]at t1;have t2:=ň F.ok hr (by omega) (N:=na.map D.str) (by rw[cA]);have t2:lO [.lst (J.map dw),cx na,.lst (dC na.length R λr g=>Ϛ (dep J+r) g)]=U (.bl Â):=t2;have z1:iK [.int (R:Int)]=U (.str (dn (R:Int))):=ja (vZ (by omega) (by omega));have z2:iK [.int (most:Int)]=U (.str (dn (most:Int))):=ja (vZ (by omega) (by omega));have il1:=xt (n:=R) (by omega);have il2:=xt (n:=most) (by omega);have a1:dF (.str "run ") (.str (dn (R:Int)))=U (.str (Str.join (eX 32) ["run",dn (R:Int)])):=by
  have:("run ":Str).length=4:=by decide +kernel
  rw[xu (by omega),ZF]
 have a2:dF (.str "again ") (.str (dn (most:Int)))=U (.str (Str.join (eX 32) ["again",dn (most:Int)])):=by
  have:("again ":Str).length=6:=by decide +kernel
  rw[xu (by omega),Wn]
 have l1:ee [cx na]=U (.int (na.length:Int)):=(ya _).trans (by simp);have g1:jS [.int (na.length:Int)]=U (lI 0 na.length):=by rw[xw (by omega) (by omega)];simp
 have B2:é 5 (p9 (lq 0 6 "say" (Ä (e2 dF (eC (.str "run ")) (eN iK (Ä (C 3) Å))) Å) dM) (Ä (C 2) (Ä (C 3) Å)) jV) [U (dk (cJ (na.map .str) J) tbl pt n),U (.lst (J.map dw)),U (cx na),U (.int (R:Int)),U (.int (most:Int)),L,L]=U (.nx [U (dk (cJ (na.map .str) J) tbl pt (n+1)),U (.lst (J.map dw)),U (cx na),U (.int (R:Int)),U (.int (most:Int)),U (.lst (dC na.length R λr g=>Ϛ (dep J+r) g)),L]):=by
  have cs:=Ex (i:=0) (gs:=Ä (e2 dF (eC (.str "run ")) (eN iK (Ä (C 3) Å))) Å) (Z:=[U (dk (cJ (na.map .str) J) tbl pt n),U (.lst (J.map dw)),U (cx na),U (.int (R:Int)),U (.int (most:Int)),L,L]) rfl (row:=.str (Str.join (eX 32) ["run",dn (R:Int)])) (by
   show((((iK [.int (R:Int)]).bind λy=>dF (.str "run ") y)).bind λx=>U [x])=_;rw[z1];show((dF (.str "run ") (.str (dn (R:Int)))).bind λx=>U [x])=_;rw[a1]
   rfl) s1
  unfold é p9;rw[cs];show((jV [.str (alm na (oO na.length R λr g=>Ϛ (dep J+r) g) 0),cx na,.int (R:Int)]).bind _).bind _=_;rw[t1];rfl
 have isn:pQ Ã (.lst (dC na.length R λr g=>Ϛ (dep J+r) g)) .non=U (.bl Ã):=rfl;have yH:Ò (å (tb (e2 (pQ Ã) (C 5) (eC .non))) (Þ (tb (cl lO (Ä (C 1) (Ä (C 2) (Ä (C 5) Å))))))) (Ê (eC (.bl Ã))) É [U (dk (cJ (na.map .str) J) tbl pt (n+1)),U (.lst (J.map dw)),U (cx na),U (.int (R:Int)),U (.int (most:Int)),U (.lst (dC na.length R λr g=>Ϛ (dep J+r) g)),L]=U (.nx [U (dk (cJ (na.map .str) J) tbl pt (n+1)),U (.lst (J.map dw)),U (cx na),U (.int (R:Int)),U (.int (most:Int)),U (.lst (dC na.length R λr g=>Ϛ (dep J+r) g)),L]):=by generalize dk (cJ (na.map .str) J) tbl pt (n+1)=d1,D.lst (dC na.length R λr g=>Ϛ (dep J+r) g)=RS,D.lst (J.map dw)=A,cx na=N at *;clear B2 t1 G8 O s1 hr F z1 z2 a1 a2 l1 g1;walk_at "mie"
 have lp:=jj (g:=gV 6) (b:=iQ) (λ(g:Nat)=>D.int (0+(g:Int))) (λg=>decide (∃a∈J,a.g=g)) (λZ=>∃y6,Z=[U (dk (cJ (na.map .str) J) tbl pt (n+1)),U (.lst (J.map dw)),U (cx na),U (.int (R:Int)),U (.int (most:Int)),U (.lst (dC na.length R λr g=>Ϛ (dep J+r) g)),y6]/\∀d,y6=U d->BN d=Ã) (.bl Â) (cv na.length) [U (dk (cJ (na.map .str) J) tbl pt (n+1)),U (.lst (J.map dw)),U (cx na),U (.int (R:Int)),U (.int (most:Int)),U (.lst (dC na.length R λr g=>Ϛ (dep J+r) g)),L] ⟨L,rfl,nofun⟩ (by
   rintro g hg Z ⟨y6,rfl,_⟩;rw[og];refine⟨[U (dk (cJ (na.map .str) J) tbl pt (n+1)),U (.lst (J.map dw)),U (cx na),U (.int (R:Int)),U (.int (most:Int)),U (.lst (dC na.length R λr g=>Ϛ (dep J+r) g)),U (.int (g:Int))],rfl,?_⟩;have q:=ZI (J:=J) (by omega) g [U (dk (cJ (na.map .str) J) tbl pt (n+1)),U (.lst (J.map dw)),U (cx na),U (.int (R:Int)),U (.int (most:Int)),U (.lst (dC na.length R λr g=>Ϛ (dep J+r) g)),U (.int (g:Int))] rfl rfl;have e:=ZE Ã (J.filter λa=>decide (a.g=g));by_cases hx:∃a∈J,a.g=g
   ·refine .inl ⟨decide_eq_true hx,[U (dk (cJ (na.map .str) J) tbl pt (n+1)),U (.lst (J.map dw)),U (cx na),U (.int (R:Int)),U (.int (most:Int)),U (.lst (dC na.length R λr g=>Ϛ (dep J+r) g)),U (.int (g:Int))],?_,U (.int (g:Int)),rfl,λd e=>by cases e;rfl⟩;rw[decide_eq_false (λz=>by obtain⟨a,ha,pf⟩:=hx;have:a∈J.filter λa=>decide (a.g=g):=cR.mpr ⟨ha,decide_eq_true pf⟩;rw[z]at this;cases this)]at e;unfold iQ Ò tb e2;rw[q];show((ga Ã (.lst ((J.filter λa=>decide (a.g=g)).map dw)) (.lst [])).bind xB).bind _=_;rw[e];rfl
   ·refine .inr ⟨decide_eq_false hx,?_⟩;rw[decide_eq_true (List.filter_eq_nil_iff.mpr λa ha z=>hx ⟨a,ha,of_decide_eq_true z⟩)]at e;unfold iQ Ò tb e2;rw[q];show((ga Ã (.lst ((J.filter λa=>decide (a.g=g)).map dw)) (.lst [])).bind xB).bind _=_;rw[e]
    rfl)
 have fr:(λZ:L3.Env=>((Ä (eN ee (Ä (C 2) Å)) Å) Z).bind jS) [U (dk (cJ (na.map .str) J) tbl pt (n+1)),U (.lst (J.map dw)),U (cx na),U (.int (R:Int)),U (.int (most:Int)),U (.lst (dC na.length R λr g=>Ϛ (dep J+r) g)),L]=U ((cv na.length).map λ(g:Nat)=>D.int (0+(g:Int))):=by have g2:=g1;rw[Kx]at g2;generalize ((cv na.length).map λ(g:Nat)=>D.int (0+(g:Int)))=ϔ,dk (cJ (na.map .str) J) tbl pt (n+1)=d1,D.lst (dC na.length R λr g=>Ϛ (dep J+r) g)=RS,D.lst (J.map dw)=A,cx na=N at *;clear B2 yH t1 G8 O s1 hr F z1 z2 a1 a2 g1 lp;walk_at "mid"
 have m1:∀{d p:D} {r:L3.Env},sP (Ø (λZ=>((Ä (eN ee (Ä (C 2) Å)) Å) Z).bind jS) (gV 6) iQ) (p9 (lq 0 6 "say" (Ä (e2 dF (eC (.str "again ")) (eN iK (Ä (C 4) Å))) Å) dM) (Ä (C 1) (Ä (C 5) (Ä (C 4) (Ä (eN ee (Ä (C 2) Å)) Å)))) gG) [U (dk (cJ (na.map .str) J) tbl pt (n+1)),U (.lst (J.map dw)),U (cx na),U (.int (R:Int)),U (.int (most:Int)),U (.lst (dC na.length R λr g=>Ϛ (dep J+r) g)),L]=U (d,U p::r)->gM [dk (cJ (na.map .str) J) tbl pt n,.lst (J.map dw),cx na,.int (R:Int),.int (most:Int)]=U (.tup [d,p]):=by intro d p r RH;unfold gM;exact R8 (Z:=[U (dk (cJ (na.map .str) J) tbl pt n),U (.lst (J.map dw)),U (cx na),U (.int (R:Int)),U (.int (most:Int)),L,L]) rfl ((Qh B2).trans ((Qh yH).trans RH))
 have sf:=Qi (fi:=λZ=>((Ä (eN ee (Ä (C 2) Å)) Å) Z).bind jS) (Z:=[U (dk (cJ (na.map .str) J) tbl pt (n+1)),U (.lst (J.map dw)),U (cx na),U (.int (R:Int)),U (.int (most:Int)),U (.lst (dC na.length R λr g=>Ϛ (dep J+r) g)),L]) (g:=gV 6) (b:=iQ) fr;rcases lp with⟨xD,ρ',hf,y6,rfl,ho⟩|⟨_,hf⟩
 ·have tK:∀g,g<na.length->∃a∈J,a.g=g:=λg hg=>of_decide_eq_true (dE.mp xD g (cD.mpr hg));have Mr:qU [U (.lst (J.map dw)),U (cx na),U (.int (R:Int)),U (.int (most:Int)),U (.lst (dC na.length R λr g=>Ϛ (dep J+r) g)),y6]=Â:=by
   show qU [y6]=Â;cases y6 with
   |none=>rfl
   |some d=>have:=ho d rfl;cases d<;>first|rfl|cases this
  have sq:=ZH (g:=p9 (lq 0 6 "say" (Ä (e2 dF (eC (.str "again ")) (eN iK (Ä (C 4) Å))) Å) dM) (Ä (C 1) (Ä (C 5) (Ä (C 4) (Ä (eN ee (Ä (C 2) Å)) Å)))) gG) (sf.trans hf) Mr;obtain⟨Y',_,D2⟩:=LB (ns:=na.map .str) F.ok (by rw[cA]) (show max R most<=1000 by omega);obtain⟨V,hV,hM⟩:=D2.mx F.ok (λi hi g hg=>⟨0,rfl⟩) tK;have one:=ó.one F.ok hr (D2.cut (show R<=max R most by omega)) (λ_ _ _ _=>rfl) (λ_ _ _ _=>rfl);have er:dC na.length R (λr g=>Ϛ (dep J+r) g)=dB na.length R (λr g=>V (dep J+r) g):=MZ λi hi g hg=>(one (dep J+i) (by omega) g hg).trans (hV _ (by omega) g hg);have gg:∀vB,dM [dk (cJ (na.map .str) J) tbl pt (n+1),.str (Str.join (eX 32) ["again",dn (most:Int)])]=U (.tup [.str vB,dk (cJ (na.map .str) J) tbl pt (n+1+1)])->gG [.str vB,.lst (J.map dw),.lst (dC na.length R λr g=>Ϛ (dep J+r) g),.int (most:Int),.int (na.length:Int)]=U (.bl Â)->∃n',gM [dk (cJ (na.map .str) J) tbl pt n,.lst (J.map dw),cx na,.int (R:Int),.int (most:Int)]=U (.tup [.bl Â,dk (cJ (na.map .str) J) tbl pt n']):=λvB h1 h2=>by
   have cs:=Ex (i:=0) (gs:=Ä (e2 dF (eC (.str "again ")) (eN iK (Ä (C 4) Å))) Å) (Z:=[U (dk (cJ (na.map .str) J) tbl pt (n+1)),U (.lst (J.map dw)),U (cx na),U (.int (R:Int)),U (.int (most:Int)),U (.lst (dC na.length R λr g=>Ϛ (dep J+r) g)),y6]) rfl (row:=.str (Str.join (eX 32) ["again",dn (most:Int)])) (by
    show((((iK [.int (most:Int)]).bind λy=>dF (.str "again ") y)).bind λx=>U [x])=_;rw[z2];show((dF (.str "again ") (.str (dn (most:Int)))).bind λx=>U [x])=_;rw[a2]
    rfl) h1
   have ar:(Ä (C 1) (Ä (C 5) (Ä (C 4) (Ä (eN ee (Ä (C 2) Å)) Å)))) [U (dk (cJ (na.map .str) J) tbl pt (n+1+1)),U (.lst (J.map dw)),U (cx na),U (.int (R:Int)),U (.int (most:Int)),U (.lst (dC na.length R λr g=>Ϛ (dep J+r) g)),y6]=U [.lst (J.map dw),.lst (dC na.length R λr g=>Ϛ (dep J+r) g),.int (most:Int),.int (na.length:Int)]:=by generalize dk (cJ (na.map .str) J) tbl pt (n+1+1)=d1,D.lst (dC na.length R λr g=>Ϛ (dep J+r) g)=RS,D.lst (J.map dw)=A,cx na=N at *;clear B2 yH t1 G8 O s1 hr F z1 z2 a1 a2 g1 sf fr hf sq hM hV one m1 tK Mr cs;walk_at "mid"
   exact⟨n+1+1,m1 (sq.trans (ņ cs ar h2))⟩
  rcases Wm (tbl:=tbl) (pt:=pt) (n:=n+1) F tK IX hm (show max R most<=100 by omega) (show most<=max R most by omega) D2 hV hM with h|⟨c,f,Ϝ,h1,h2,h3,h4,h5⟩
  ·exact gg _ h (ZD _ _ _ _)
  ·refine gg _ h5 ?_;rw[er];exact Xg (by omega) h3 (by omega) (by omega) h1 h2 (by omega) λm g hf hm hg=>h4 m g hf (by omega) hg
 ·have So:=sf.trans hf;exact⟨n+1,m1 (ZG So)⟩
end
theorem Ec (ns:List Int)(i:Int)(hi:0<=i):∃c,eP [.lst (ns.map .int),.int i]=sI c:=by
 obtain⟨k,rfl⟩:∃k:Nat,i=k:=⟨i.toNat,by omega⟩;unfold eP;by_cases h:k<ns.length
 ·refine⟨ns[k],?_⟩;have:dX (.lst (ns.map .int)) (.int (k:Int))=U (.int ns[k]):=K0 D.int (.inl rfl) (by simp[h]);walk_at "mid"
 ·refine⟨0,?_⟩;walk_at "mid"
def AM (c:Int):Bool:=decide (1237940039285380274899124224<=c)&&decide (c%2=1)
theorem ZK (c:Int):lG [.int c]=U (.bl (AM c)):=by unfold lG AM;by_cases h1:(1237940039285380274899124224:Int)<=c<;>by_cases h2:c%2=1<;>walk_at "mid"
theorem ZL (c:Int){k:Int}(h0:0<=k)(h1:k<=1000000):∃r:Nat,my [.int c,.int k]=sI (r:Int)/\r<2147483648:=by
 have m0:n6 (.int 31) (.int k)=sI (31*k):=Ĉ (by decide) (by decide);have s0:zO (.int c) (.int (1+31*k))=sI (c/2 ^ (1+31*k).toNat):=Ě (by omega);have r0:=ZK c;have fin:∀z:Int,∀m:Int,0<m->m<=2147483648->∃r:Nat,(U (D.int (z%m)):Option D)=sI (r:Int)/\r<2147483648:=λz m hm pA=>by have a1:=lJ z (by omega:m≠0);have a2:=jW z hm;exact⟨(z%m).toNat,by rw[Int.toNat_of_nonneg a1],by omega⟩
 generalize hn:(c+7919*k+1)*48271%2147483647=n1;have b1:0<=n1/\n1<2147483647:=by omega
 have m1:n6 (.int 7919) (.int k)=sI (7919*k):=Ĉ (by decide) (by decide);have m2:n6 (.int (c+7919*k+1)) (.int 48271)=sI ((c+7919*k+1)*48271):=Ę (by decide) (by decide);have m3:n6 (.int n1) (.int (n1/1009+69621))=sI (n1*(n1/1009+69621)):=Ĉ (by omega) (by omega);generalize yZ:n1*(n1/1009+69621)%2147483647=n2;have b2:0<=n2/\n2<2147483647:=by omega
 have m4:n6 (.int n2) (.int (n2/2003+39373+k))=sI (n2*(n2/2003+39373+k)):=Ĉ (by omega) (by omega);unfold my;by_cases hr:AM c=Â
 ·by_cases hs:c/2 ^ (1+31*k).toNat > 0
  ·obtain⟨r,e1,e2⟩:=fin (c/2 ^ (1+31*k).toNat) 2147483648 (by decide) (by decide);refine⟨r,?_,e2⟩;rw[←e1];generalize c/2 ^ (1+31*k).toNat=q at s0 hs;clear e1 e2 fin hn yZ b1 b2 h0 h1;walk_at "mid"
  ·obtain⟨r,e1,e2⟩:=fin (n2*(n2/2003+39373+k)) 2147483629 (by decide) (by decide);refine⟨r,?_,e2⟩;rw[←e1];generalize c/2 ^ (1+31*k).toNat=q at s0 hs;clear e1 e2 fin b1 b2 h0 h1;walk_at "mid"
 ·obtain⟨r,e1,e2⟩:=fin (n2*(n2/2003+39373+k)) 2147483629 (by decide) (by decide);refine⟨r,?_,e2⟩;rw[←e1];clear e1 e2 fin b1 b2 h0 h1 s0;walk_at "mid"
theorem ZM (c:Int)(r:Nat):∃t:Nat,nK [.int c,.int (r:Int)]=sI (t:Int)/\t<=1000000000:=by
 have p:AT (.int 10) (.int 9)=sI 1000000000:=(ě (by decide) (by decide) (by decide)).trans rfl;unfold nK;by_cases h:c%8=7
 ·have a1:=lJ (c/8) (by decide:(1000000001:Int)≠0);have a2:=jW (c/8) (by decide:(0:Int)<1000000001);obtain⟨t,e⟩:=eY a1;refine⟨t,?_,by omega⟩;rw[←e];clear a1 a2 e;walk_at "mid"
 ·have a1:=lJ ((r:Int)/1000) (by decide:(10:Int)≠0);have a2:=jW ((r:Int)/1000) (by decide:(0:Int)<10);obtain⟨t,e⟩:=eY a1;refine⟨t,?_,by omega⟩;rw[←e];clear a1 a2 e p;walk_at "mid"
structure Bg (mv:Nat)(a:gx):Prop where
 r:Ā mv a
 up:a.b=0->a.s<a.g
theorem Xh (c:Int){k:Nat}(hm:1<=mv)(pA:mv<=5)(hk:k<=100):∃a:gx,f6 [.int c,.int (mv:Int),.int (k:Int)]=U (dw a)/\Bg mv a/\(k<mv->a.g=k):=by
 obtain⟨r,m0,hr⟩:=ZL c (k:=(k:Int)) (by omega) (by omega);obtain⟨t,tm,ht⟩:=ZM c r;have mm:∀z:Nat,i7 (.int (z:Int)) (.int (mv:Int))=sI ((z%mv:Nat):Int):=λz=>(u7 (by omega)).trans (by rw[Int.natCast_emod]);have Y:=mm r;have mg:=mm (r/8);rw[show((r/8:Nat):Int)=(r:Int)/8 from rfl]at mg;have e4:(r:Int)/64%4=((r/64%4:Nat):Int):=rfl;have e3:(r:Int)/256%3=((r/256%3:Nat):Int):=rfl;have hs:r%mv<mv:=qG _ (by assumption);have hg:r/8%mv<mv:=qG _ (by assumption);have hb:r/64%4<4:=qG _ (by decide);have hw:r/256%3<3:=qG _ (by decide);generalize r%mv=s,r/8%mv=g,r/64%4=b,r/256%3=w at *;replace e4:=congrArg D.int e4;replace e3:=congrArg D.int e3;have JA:uB [.int 1,.int (b:Int)]=sI ((max 1 b:Nat):Int):=by show U (D.int (if(b:Int) > 1 then(b:Int)else 1))=_;congr 2;omega
 have T0:(0:Int)<=(t:Int):=zT _;have T1:(t:Int)<=1000000000:=Int.ofNat_le.mpr ht;have B4:b<=4:=oi hb;have M4:max 1 b<=4:=Nat.max_le.mpr ⟨by decide,B4⟩;have M1:1<=max 1 b:=Nat.le_max_left ..;by_cases AF:k<mv
 ·refine⟨⟨.back,s,k,t,max 1 b⟩,?_,⟨⟨hs,AF,T0,T1,M4,nofun,λ_=>M1⟩,λh=>absurd (d8 M1 (qY h)) (by decide)⟩,λ_=>rfl⟩;have c1:(k:Int)<(mv:Int):=by omega
  show _=U (D.tup [.str "back",.int (s:Int),.int (k:Int),.int (t:Int),.int ((max 1 b:Nat):Int)]);generalize ((max 1 b:Nat):Int)=bb at *;unfold f6;clear T0 T1 B4 M4 M1 hm pA hk hr ht mm hs hg hb hw e3 AF;walk_at "mid"
 ·have c1:¬(k:Int)<(mv:Int):=by omega
  by_cases h1:s<g
  ·have c2:(s:Int)<(g:Int):=by omega
   by_cases h2:w=0
   ·refine⟨⟨.ride,s,g,t,0⟩,?_,⟨⟨hs,hg,T0,T1,gn _,λ_=>rfl,nofun⟩,λ_=>h1⟩,λh=>absurd h AF⟩;have c3:(w:Int)=0:=by omega
    show _=U (D.tup [.str "ride",.int (s:Int),.int (g:Int),.int (t:Int),.int 0]);unfold f6;clear T0 T1 B4 M4 M1 hm pA hk hr ht mm hs hg hb hw AF h1 JA;walk_at "mid"
   ·refine⟨⟨.wait,s,g,t,b⟩,?_,⟨⟨hs,hg,T0,T1,B4,nofun,nofun⟩,λ_=>h1⟩,λh=>absurd h AF⟩;have c3:¬(w:Int)=0:=by omega
    show _=U (D.tup [.str "wait",.int (s:Int),.int (g:Int),.int (t:Int),.int (b:Int)]);unfold f6;clear T0 T1 B4 M4 M1 hm pA hk hr ht mm hs hg hb hw AF h1 JA;walk_at "mid"
  ·have c2:¬(s:Int)<(g:Int):=by omega
   by_cases h2:0<b/\w=1
   ·refine⟨⟨.wait,s,g,t,b⟩,?_,⟨⟨hs,hg,T0,T1,B4,nofun,nofun⟩,λh=>absurd h (kE h2.1)⟩,λh=>absurd h AF⟩;have c3:(b:Int) > 0:=by omega
    have c4:(w:Int)=1:=by omega
    obtain⟨c5,c6⟩:=h2;show _=U (D.tup [.str "wait",.int (s:Int),.int (g:Int),.int (t:Int),.int (b:Int)]);unfold f6;clear T0 T1 B4 M4 M1 hm pA hk hr ht mm hs hg hb hw AF h1 JA;walk_at "mid"
   ·refine⟨⟨.back,s,g,t,max 1 b⟩,?_,⟨⟨hs,hg,T0,T1,M4,nofun,λ_=>M1⟩,λh=>absurd (d8 M1 (qY h)) (by decide)⟩,λh=>absurd h AF⟩;show _=U (D.tup [.str "back",.int (s:Int),.int (g:Int),.int (t:Int),.int ((max 1 b:Nat):Int)]);generalize ((max 1 b:Nat):Int)=bb at *;by_cases h3:0<b
    ·have c3:(b:Int) > 0:=by omega
     have c4:¬(w:Int)=1:=by omega
     have c5:¬w=1:=by omega
     unfold f6;clear T0 T1 B4 M4 M1 hm pA hk hr ht mm hs hg hb hw AF h1 h2;walk_at "mid"
    ·have c3:¬(b:Int) > 0:=by omega
     unfold f6;clear T0 T1 B4 M4 M1 hm pA hk hr ht mm hs hg hb hw AF h1 h2;walk_at "mid"
section
variable {a:gx}
theorem Ņ (w1 w2 w3 w4 w5:Str):Str.join (eX 32) [w1,w2,w3,w4] ++ " "++w5=Str.join (eX 32) [w1,w2,w3,w4,w5]:=by apply wp;rw[yp,yp,join_list,join_list,join_list,join_list,join_list,join_list,join_list];show _++(" ":Str).cps.toList++_=_;rw[show(" ":Str).cps.toList=[32]by decide +kernel];simp[Str.join,dR]
theorem ń (hn:oB na)(h:Wr na.length a):lN [dw a,cx na]=U (.str (Str.join (eX 32) (pS na a))):=by
 have mem:=λw hw=>Og (na:=na) (a:=a) hn h (w:=w) hw;have x1:=Qe (na:=na) h.s;have x2:=Qe (na:=na) h.g;have z1:iK [.int a.t]=U (.str (dn a.t)):=Ep h.t0 h.t1;have z2:iK [.int (a.b:Int)]=U (.str (dn (a.b:Int))):=Ep (by omega) (by have:=h.b;omega);have m4:∀w∈[hG a.c,dr na a.s,dr na a.g,dn a.t],w.length<=12:=λw hw=>(mem w (by unfold pS;exact c7 _ hw)).2.1;have j4:m7 (.str " ") (.lst [.str (hG a.c),.str (dr na a.s),.str (dr na a.g),.str (dn a.t)])=U (.str (Str.join (eX 32) [hG a.c,dr na a.s,dr na a.g,dn a.t])):=by rw[CS];exact Gu (b:=12) m4 (by simp[JS])
 have jl:=NG m4 32;have sa:í (gT (È (gV 2) (È (gV 3) (È (gV 4) (È (gV 5) (È (gV 6) Ô)))))) (C 0) [U (dw a),U (cx na),L,L,L,L,L,L]=U (.nx [U (dw a),U (cx na),U (.str (hG a.c)),sI (a.s:Int),sI (a.g:Int),sI a.t,sI (a.b:Int),L]):=rfl;have er:=HS Ã a.c .ride;have wr:hG .ride = "ride":=rfl;rw[wr]at er;by_cases hr:a.c=.ride
 ·have e:pS na a=[hG a.c,dr na a.s,dr na a.g,dn a.t]:=by unfold pS;rw[if_pos hr];rfl
  rw[e];rw[decide_eq_true hr]at er;generalize Str.join (eX 32) [hG a.c,dr na a.s,dr na a.g,dn a.t]=ϗ at *;generalize dr na a.s=w1,dr na a.g=w2,dn a.t=w3,hG a.c=w0,cx na=N,dw a=A at *;clear mem m4 hn h hr e jl z2 wr;unfold lN;generalize í (gT (È (gV 2) (È (gV 3) (È (gV 4) (È (gV 5) (È (gV 6) Ô)))))) (C 0)=SA at *;walk_at "mid"
 ·have e:pS na a=[hG a.c,dr na a.s,dr na a.g,dn a.t,dn (a.b:Int)]:=by unfold pS;rw[if_neg hr];rfl
  have lb:(dn (a.b:Int)).length<=10:=xt (by have:=h.b;omega);rw[e,←Ņ];rw[decide_eq_false hr]at er;have jl:(Str.join (eX 32) [hG a.c,dr na a.s,dr na a.g,dn a.t]).length<=52:=by simpa using jl
  have s1:(" ":Str).length=1:=by decide +kernel
  generalize Str.join (eX 32) [hG a.c,dr na a.s,dr na a.g,dn a.t]=ϗ at *;have d1:dF (.str ϗ) (.str " ")=U (.str (ϗ ++ " ")):=xu (by omega);have d2:dF (.str (ϗ ++ " ")) (.str (dn (a.b:Int)))=U (.str (ϗ ++ " "++dn (a.b:Int))):=xu (by rw[vz];omega);generalize dr na a.s=w1,dr na a.g=w2,dn a.t=w3,dn (a.b:Int)=w4,hG a.c=w0,cx na=N,dw a=A at *;generalize ϗ ++ " "++w4=J2 at *;generalize ϗ ++ " "=J1 at *;clear mem m4 hn h hr e jl wr lb s1;unfold lN;generalize í (gT (È (gV 2) (È (gV 3) (È (gV 4) (È (gV 5) (È (gV 6) Ô)))))) (C 0)=SA at *;walk_at "mid"
end
def CG:List Str:=["a","run","z9","round"]
def d6 (c mv:Nat):List Str:=(cv mv).map λ(k:Nat)=>CG.getD ((c+k)%4) ""++dn (k:Int)
theorem Gg (c mv:Nat):(d6 c mv).length=mv:=by unfold d6;simp
theorem Ń {c:Nat}(hc:c<4)(hm:mv<=5):oB (d6 c mv):=by
 have Bk:∀c,c<4->((d6 c 5).all AQ&&decide (d6 c 5).Nodup)=Â:=by decide +kernel
 obtain⟨h1,h2⟩:=Bool.and_eq_true_iff.mp (Bk c hc);have sub:(d6 c mv).Sublist (d6 c 5):=(List.range_sublist.mpr hm).map _;exact⟨sub.nodup (of_decide_eq_true h2),λx hx=>dE.mp h1 x (sub.subset hx),by rw[Gg];omega⟩
theorem Xi {ns:List Int}(hm:mv<=5)(r:L3.Env):∃c,c<4/\yD (sL (ns.map .int)::(sI (mv:Int))::r)=U (cx (d6 c mv)):=by
 obtain⟨z,hz⟩:=Ec ns 1 (by decide);have n0:=lJ z (by decide:(4:Int)≠0);have n1:=jW z (by decide:(0:Int)<4);obtain⟨c,hc⟩:=eY n0;refine⟨c,by omega,?_⟩;unfold cx d6;rw[df];refine zt (λ(k:Nat)=>D.int (0+(k:Int))) (λk=>D.str (CG.getD ((c+k)%4) ""++dn (k:Int))) (cv mv) ?_ (by simp;omega) λk hk=>⟨[sI (0+(k:Int)),sL (ns.map .int)],rfl,?_⟩
 ·have g1:jS [.int (mv:Int)]=U (lI 0 mv):=by rw[xw (by omega) (by omega)];simp
  rw[Kx]at g1;generalize ((cv mv).map λ(k:Nat)=>D.int (0+(k:Int)))=ϔ,ns.map D.int=ϙ at *;clear n0 n1 hc hz hm;walk_at "mid"
 ·have hk:=cD.mp hk;rw[og];have e:(z+(k:Int))%4=(((c+k)%4:Nat):Int):=by omega
  have h4:(c+k)%4<4:=qG _ (by decide);have x:dX (.lst [.str "a",.str "run",.str "z9",.str "round"]) (.int (((c+k)%4:Nat):Int))=U (.str (CG.getD ((c+k)%4) "")):=by
   generalize (c+k)%4=j at h4;have:j=0\/j=1\/j=2\/j=3:=by omega
   rcases this with rfl|rfl|rfl|rfl<;>rfl
  have lw:(CG.getD ((c+k)%4) "").length<=5:=by
   generalize (c+k)%4=j at h4;have:j=0\/j=1\/j=2\/j=3:=by omega
   rcases this with rfl|rfl|rfl|rfl<;>decide +kernel
  have z1:iK [.int (k:Int)]=U (.str (dn (k:Int))):=Ep (by omega) (by omega);have il:=xt (n:=k) (by omega);have ad:dF (.str (CG.getD ((c+k)%4) "")) (.str (dn (k:Int)))=U (.str (CG.getD ((c+k)%4) ""++dn (k:Int))):=xu (by omega);rw[←e]at x;generalize CG.getD ((c+k)%4) ""++dn (k:Int)=W at *;generalize CG.getD ((c+k)%4) ""=W1,dn (k:Int)=W2,ns.map D.int=ϙ at *;clear e h4 lw il hc n0 n1 hk hm;walk_at "mid"
section
variable {c:Nat}
theorem HM (hc:c<4)(h1:1<=mv)(hm:mv<=5)(hl:J.length<=100)(h:∀a∈J,Bg mv a):Bh (d6 c mv) J:=by have e:=Gg c mv;refine⟨⟨by omega,by omega,by omega,λa ha=>by rw[e];exact(h a ha).r,id,λa ha hb=>(h a ha).up hb⟩,Ń hc hm,λz=>by rw[z]at e;simp at e;omega,by omega,λa ha hb=>(h a ha).up hb,λa ha=>⟨(h a ha).r.t0,(h a ha).r.t1⟩⟩
theorem Bg.wr {a:gx}(h:Bg mv a)(c:Nat):Wr (d6 c mv).length a:=by rw[Gg];exact⟨h.r.s,h.r.g,h.r.t0,h.r.t1,h.r.b,h.r.r⟩
theorem Wo {a:gx}{n:Int}(F:Bh (d6 c mv) (J++[a]))(h:Bg mv a):dM [dk (cJ ((d6 c mv).map .str) J) tbl pt n,.str (Str.join (eX 32) (pS (d6 c mv) a))]=U (.tup [.str "ok",dk (cJ ((d6 c mv).map .str) (J++[a])) .non pt (n+1)]):=by have ro:=ŧ F.nm (h.wr c);have e:∃wr,pS (d6 c mv) a=hG a.c::wr:=⟨_,rfl⟩;obtain⟨wr,e⟩:=e;rw[e]at ro ⊢;exact VT F.nm F.ne (by cases a.c<;>decide +kernel) ro F.ok
end
theorem wf {f g:SF}{k:ý->Option D}{r:Option D}(h1:f Z=U (.nx ρ'))(h2:(g ρ').bind k=r):(Ç f g Z).bind k=r:=by unfold Ç;rw[h1];exact h2
theorem AZ {i:Nat}{f:EF}{d:D}(h:f Z=U d):Ì i f Z=U (.nx (Z.set i (U d))):=by unfold Ì;rw[h];rfl
theorem Gv {p:BM}{u w:SF}(h:p Z=U (Ã,ρ'))(hw:w=É):vV p u w Z=U (.nx ρ'):=by unfold vV;rw[h,hw];rfl
theorem HN {f:EM}(h:f Z=U (.str "ok",ρ')):xI (ga Â) f (eC (.str "ok")) Z=U (Ã,ρ'):=by have e:ga Â (.str "ok") (.str "ok")=U (.bl Ã):=(xh (zw _) (zw _)).trans (by simp);unfold xI;rw[h];show((ga Â (.str "ok") (.str "ok")).bind _)=_;rw[e];rfl
theorem ł {j:Nat}{u:SF}(h:Z[j]?=U (sL S)):vW j u Z=u Z:=by unfold vW;rw[h]
theorem uw (z:Int){m:Nat}(h:0<m):∃l:Nat,z%(m:Int)=(l:Int)/\l<m:=by have a1:=lJ z (by omega:(m:Int)≠0);have a2:=jW z (by omega:(0:Int)<(m:Int));exact⟨(z%(m:Int)).toNat,by omega,by omega⟩
theorem Wp {ns:List Int}{Ï:Nat}(h1:1<=mv)(hm:mv<=5)(ht:Ï<=20)(r:L3.Env):∃J:List gx,J.length=Ï/\(∀a∈J,Bg mv a)/\yC (sL (ns.map .int)::(sI (mv:Int))::(sI (Ï:Int))::r)=sL (J.map dw):=by
 have ex:∀k:Nat,∃a:gx,k<=100->((∃z,eP [.lst (ns.map .int),.int (4+(k:Int))]=sI z/\f6 [.int z,.int (mv:Int),.int (k:Int)]=U (dw a))/\Bg mv a):=λk=>by
  by_cases hk:k<=100
  ·obtain⟨z,hz⟩:=Ec ns (4+(k:Int)) (by omega);obtain⟨a,ha,hd,_⟩:=Xh z (mv:=mv) (k:=k) h1 hm hk;exact⟨a,λ_=>⟨⟨z,hz,ha⟩,hd⟩⟩
  ·exact⟨⟨.ride,0,0,0,0⟩,λh=>absurd h hk⟩
 refine⟨(cv Ï).map λk=>(ex k).choose,by simp,λa ha=>?_,?_⟩
 ·obtain⟨k,hk,rfl⟩:=cO.mp ha;exact((ex k).choose_spec (by have:=cD.mp hk;omega)).2
 ·rw[df];refine zt (λ(k:Nat)=>D.int (0+(k:Int))) (λk=>dw (ex k).choose) (cv Ï) ?_ (by simp;omega) λk hk=>⟨[sI (0+(k:Int)),sL (ns.map .int),sI (mv:Int)],rfl,?_⟩
  ·have g1:jS [.int (Ï:Int)]=U (lI 0 Ï):=by rw[xw (by omega) (by omega)];simp
   rw[Kx]at g1;generalize ((cv Ï).map λ(k:Nat)=>D.int (0+(k:Int)))=ϔ,ns.map D.int=ϙ at *;clear ex;walk_at "mid"
  ·obtain⟨⟨z,hz,ha⟩,-⟩:=(ex k).choose_spec (by have:=cD.mp hk;omega);rw[og];generalize dw (ex k).choose=E at *;clear hk;generalize ns.map D.int=ϙ at *;clear ex;walk_at "mid"
theorem Kb {w w':Str}(h:w'.cps.toList=w.cps.toList++[32])(x:Str):w'++x=Str.join (eX 32) [w,x]:=by apply wp;rw[yp,join_list,h,dR];rfl
theorem Vq (h:na≠[]):("goings ":Str)++Str.join (eX 32) na=E5 na:=by apply wp;unfold E5;rw[yp,HL h,show("goings ":Str).cps.toList=("goings":Str).cps.toList++[32]by decide +kernel,dR];rfl
theorem Vr (x y:Str):("change ":Str)++x ++ " "++y=Str.join (eX 32) ["change",x,y]:=by apply wp;rw[yp,yp,yp,join_list,join_list,show("change ":Str).cps.toList=("change":Str).cps.toList++[32]by decide +kernel,show(" ":Str).cps.toList=[32]by decide +kernel];simp[Str.join,dR]
theorem Ł {c:Nat}(hc:c<4)(h1:1<=mv)(hm:mv<=5)(hl:J.length<=20)(h:∀a∈J,Bg mv a)(y0 y1 y2 y4 y5:Option D)(r:L3.Env){n:Int} :
  ∃(y8:Option D) (tbl:D) (n':Int),gX (gV 8) uK (J.map dw) (y0::y1::y2::U (cx (d6 c mv))::y4::y5::(sL (J.map dw))::U (dk (cJ ((d6 c mv).map .str) []) .non pt n)::L::r)=U (.nx (y0::y1::y2::U (cx (d6 c mv))::y4::y5::(sL (J.map dw))::U (dk (cJ ((d6 c mv).map .str) J) tbl pt n')::y8::r)):=by
 obtain⟨ρ',e,y8,tbl,n',rfl⟩:=ub (g:=gV 8) (b:=uK) (S:=J.map dw) (Z:=y0::y1::y2::U (cx (d6 c mv))::y4::y5::(sL (J.map dw))::U (dk (cJ ((d6 c mv).map .str) []) .non pt n)::L::r)
  (λpre Z=>∃(y8:Option D) (tbl:D) (n':Int),Z=y0::y1::y2::U (cx (d6 c mv))::y4::y5::(sL (J.map dw))::U (dk (cJ ((d6 c mv).map .str) (J.take pre.length)) tbl pt n')::y8::r) ⟨L,.non,n,rfl⟩ (by
   rintro pre d post Z he ⟨y8,tbl,n',rfl⟩;have hd:=HJ he;rw[dm]at hd;cases ha:J[pre.length]? with
   |none=>rw[ha]at hd;cases hd
   |some a=>
    rw[ha]at hd;cases hd;have hD:=h a (gJ ha);have tk:J.take (pre.length+1)=J.take pre.length++[a]:=by rw[tN,ha];rfl
    have F:Bh (d6 c mv) (J.take pre.length++[a]):=by rw[←tk];exact HM hc h1 hm (by rw[fK];omega) λx hx=>h x (iO hx)
    have sd:=Wo (tbl:=tbl) (pt:=pt) (n:=n') F hD;have lr:=ń F.nm (hD.wr c);refine⟨y0::y1::y2::U (cx (d6 c mv))::y4::y5::(sL (J.map dw))::U (dk (cJ ((d6 c mv).map .str) (J.take pre.length)) tbl pt n')::U (dw a)::r,y0::y1::y2::U (cx (d6 c mv))::y4::y5::(sL (J.map dw))::U (dk (cJ ((d6 c mv).map .str) (J.take pre.length++[a])) .non pt (n'+1))::U (dw a)::r,rfl,.inl ?_,U (dw a),.non,n'+1,by rw[cV,kK,tk]⟩;refine Gv (HN (Ex (i:=7) (row:=.str (Str.join (eX 32) (pS (d6 c mv) a))) rfl ?_ sd)) rfl;show((lN [dw a,cx (d6 c mv)]).bind λx=>U [x])=_;rw[lr]
    rfl)
 rw[cA,rO]at e;exact⟨y8,tbl,n',e⟩
theorem P1 {c:Nat}{n:Int}(F:Bh (d6 c mv) J)(hR:R<=80)(IX:1<=most)(hm:most<=60)(h7:Z[7]?=U (U (dk (cJ ((d6 c mv).map .str) J) tbl pt n)))(hg:gs Z=U [.lst (J.map dw),cx (d6 c mv),.int (R:Int),.int (most:Int)]) :
  ∃n',qR 7 [1,0,0,0] gs gM Z=U (.bl Â,Z.set 7 (U (dk (cJ ((d6 c mv).map .str) J) tbl pt n'))):=by
 obtain⟨n',h⟩:=ZJ (tbl:=tbl) (pt:=pt) (n:=n) F hR IX hm;refine⟨n',?_⟩;have e7:C 7 Z=U (dk (cJ ((d6 c mv).map .str) J) tbl pt n):=by show Z[7]?.join=_;rw[h7];rfl
 unfold qR;rw[e7];show((gs Z).bind _)=_;rw[hg];show(if BN (dk (cJ ((d6 c mv).map .str) J) tbl pt n)=Â/\uA [1,0,0,0] [.lst (J.map dw),cx (d6 c mv),.int (R:Int),.int (most:Int)]=Â then(gM [dk (cJ ((d6 c mv).map .str) J) tbl pt n,.lst (J.map dw),cx (d6 c mv),.int (R:Int),.int (most:Int)]).bind (xK 7 Z)else L)=_;rw[if_pos ⟨rfl,rfl⟩,h];rfl
theorem Jx {f:EM}(h:f Z=U (.bl Â,ρ')):BQ (mB f) Z=U (Ã,ρ'):=by unfold BQ mB;rw[h];rfl
theorem JE (z0 z2 z3:Int):∃mv Ï R most:Nat,1+z0%5=(mv:Int)/\(mv:Int)+z0/5%9=(Ï:Int)/\z2%81=(R:Int)/\1+z3%60=(most:Int)/\1<=mv/\mv<=5/\mv<=Ï/\Ï<=mv+8/\R<81/\1<=most/\most<=60:=by obtain⟨l5,e5,b5⟩:=uw z0 (m:=5) (by decide);obtain⟨l9,e9,b9⟩:=uw (z0/5) (m:=9) (by decide);obtain⟨R,eR,bR⟩:=uw z2 (m:=81) (by decide);obtain⟨R3,LL,b60⟩:=uw z3 (m:=60) (by decide);refine⟨1+l5,1+l5+l9,R,1+R3,(congrArg _ e5).trans rfl,(congrArg _ e9).trans rfl,eR,(congrArg _ LL).trans rfl,?_⟩;clear e5 e9 eR LL;omega
theorem Xj (ns:List Int)(_:ns.length<=63):AO [.lst (ns.map .int)]=U (.bl Â):=by
 obtain⟨z0,c0⟩:=Ec ns 0 (by decide);obtain⟨z2,c2⟩:=Ec ns 2 (by decide);obtain⟨z3,c3⟩:=Ec ns 3 (by decide);obtain⟨vE,LJ⟩:=Ec ns 20 (by decide);obtain⟨mv,Ï,R,most,hM,hT,DX,GR,m1,m5,mt,t8,bR,o1,o6⟩:=JE z0 z2 z3;obtain⟨c,hc,qn⟩:=Xi (ns:=ns) (mv:=mv) (by assumption) [sI (Ï:Int),L,L,L,L,L,L,L,L,L,L];obtain⟨J,DY,hD,qa⟩:=Wp (ns:=ns) (mv:=mv) (Ï:=Ï) (by assumption) (by assumption) (by omega) [U (cx (d6 c mv)),sI (R:Int),sI (most:Int),L,L,L,L,L,L,L];have F:=HM (J:=J) hc (show 1<=mv by assumption) (by assumption) (by omega) hD;unfold AO Ù;refine wf (ρ':=[sL (ns.map .int),sI (mv:Int),L,L,L,L,L,L,L,L,L,L,L]) (AZ ?_) ?_
 ·show _=U (D.int (mv:Int));generalize ns.map D.int=ϙ at *;clear qn qa F hD hT DX GR DY;walk_at "mid"
 refine wf (ρ':=[sL (ns.map .int),sI (mv:Int),sI (Ï:Int),L,L,L,L,L,L,L,L,L,L]) (AZ ?_) ?_
 ·show _=U (D.int (Ï:Int));generalize ns.map D.int=ϙ at *;clear qn qa F hD hM DX GR DY;walk_at "mid"
 refine wf (ρ':=[sL (ns.map .int),sI (mv:Int),sI (Ï:Int),U (cx (d6 c mv)),L,L,L,L,L,L,L,L,L]) (AZ qn) ?_;refine wf (ρ':=[sL (ns.map .int),sI (mv:Int),sI (Ï:Int),U (cx (d6 c mv)),sI (R:Int),L,L,L,L,L,L,L,L]) (AZ ?_) ?_
 ·show _=U (D.int (R:Int));generalize ns.map D.int=ϙ at *;clear qn qa F hD hM hT GR DY;walk_at "mid"
 refine wf (ρ':=[sL (ns.map .int),sI (mv:Int),sI (Ï:Int),U (cx (d6 c mv)),sI (R:Int),sI (most:Int),L,L,L,L,L,L,L]) (AZ ?_) ?_
 ·show _=U (D.int (most:Int));generalize ns.map D.int=ϙ at *;clear qn qa F hD hM hT DX DY;walk_at "mid"
 clear hM hT DX GR c0 c2 c3;refine wf (ρ':=[sL (ns.map .int),sI (mv:Int),sI (Ï:Int),U (cx (d6 c mv)),sI (R:Int),sI (most:Int),sL (J.map dw),L,L,L,L,L,L]) (AZ qa) ?_;refine wf (ρ':=[sL (ns.map .int),sI (mv:Int),sI (Ï:Int),U (cx (d6 c mv)),sI (R:Int),sI (most:Int),sL (J.map dw),U (dk .non .non (.lst []) 0),L,L,L,L,L]) (AZ xC) ?_;have jn:m7 (.str " ") (cx (d6 c mv))=U (.str (Str.join (eX 32) (d6 c mv))):=by rw[CS];exact Gu (b:=8) (λy hy=>(uv (F.nm.ok y hy)).2) (by rw[JS,Gg];omega)
 have jl:=NG (ws:=d6 c mv) (b:=8) (λy hy=>(uv (F.nm.ok y hy)).2) 32;rw[Gg]at jl;have ag:dF (.str "goings ") (.str (Str.join (eX 32) (d6 c mv)))=U (.str (E5 (d6 c mv))):=by
  have:("goings ":Str).length=7:=by decide +kernel
  rw[xu (by omega),Vq F.ne]
 refine wf (ρ':=[sL (ns.map .int),sI (mv:Int),sI (Ï:Int),U (cx (d6 c mv)),sI (R:Int),sI (most:Int),sL (J.map dw),U (dk (cJ ((d6 c mv).map .str) []) .non (.lst []) (0+1)),L,L,L,L,L]) (Gv (HN (Ex (i:=7) (row:=.str (E5 (d6 c mv))) rfl ?_ (UQ F.nm F.ne))) rfl) ?_
 ·show((((m7 (.str " ") (cx (d6 c mv))).bind λy=>dF (.str "goings ") y)).bind λx=>U [x])=_;rw[jn];show((dF (.str "goings ") (.str (Str.join (eX 32) (d6 c mv)))).bind λx=>U [x])=_;rw[ag];rfl
 obtain⟨y8,tbl,n1,Mz⟩:=Ł hc (show 1<=mv by assumption) (by assumption) (by omega) hD (sL (ns.map .int)) (sI (mv:Int)) (sI (Ï:Int)) (sI (R:Int)) (sI (most:Int)) [L,L,L,L] (pt:=.lst []) (n:=0+1);refine wf (ρ':=[sL (ns.map .int),sI (mv:Int),sI (Ï:Int),U (cx (d6 c mv)),sI (R:Int),sI (most:Int),sL (J.map dw),U (dk (cJ ((d6 c mv).map .str) J) tbl (.lst []) n1),y8,L,L,L,L]) ?_ ?_
 ·rw[ł rfl];exact(Qi rfl).trans Mz
 obtain⟨n2,tl⟩:=P1 (tbl:=tbl) (pt:=.lst []) (n:=n1) F (show R<=80 by omega) (show 1<=most by assumption) (by assumption) (gs:=Ä (C 6) (Ä (C 3) (Ä (C 4) (Ä (C 5) Å)))) (Z:=[sL (ns.map .int),sI (mv:Int),sI (Ï:Int),U (cx (d6 c mv)),sI (R:Int),sI (most:Int),sL (J.map dw),U (dk (cJ ((d6 c mv).map .str) J) tbl (.lst []) n1),y8,L,L,L,L]) rfl rfl;refine wf (ρ':=[sL (ns.map .int),sI (mv:Int),sI (Ï:Int),U (cx (d6 c mv)),sI (R:Int),sI (most:Int),sL (J.map dw),U (dk (cJ ((d6 c mv).map .str) J) tbl (.lst []) n2),y8,L,L,L,L]) (Gv (Jx tl) rfl) ?_;obtain⟨at_,GJ,bat⟩:=uw vE (m:=Ï) (by omega);obtain⟨tm,GM,btm⟩:=uw (vE/16) (m:=30) (by decide);obtain⟨out,GL,bou⟩:=uw (vE/480) (m:=Ï) (by omega);replace GM:D.int (vE/16%30)=.int (tm:Int):=congrArg _ GM;replace GJ:=congrArg D.int GJ;replace GL:=congrArg D.int GL;have Dl:∀z:Int,i7 (.int z) (.int (Ï:Int))=sI (z%(Ï:Int)):=λz=>u7 (by omega);obtain⟨a,ha⟩:∃a,J[at_]?=U a:=⟨_,dh (by omega)⟩;have Cw:=hD a (gJ ha);have GQ:∀x∈J.set at_ (a.at (tm:Int)),Bg mv x:=λx hx=>by
  rcases List.mem_or_eq_of_mem_set hx with hx|rfl
  ·exact hD x hx
  ·exact⟨⟨Cw.r.s,Cw.r.g,by show(0:Int)<=tm;omega,by show(tm:Int)<=_;omega,Cw.r.b,Cw.r.r,Cw.r.k⟩,Cw.up⟩
 have F2:=HM (J:=J.set at_ (a.at (tm:Int))) hc (show 1<=mv by assumption) (by assumption) (by rw[iz];omega) GQ;have LU:∀x∈((J.set at_ (a.at (tm:Int))).take out++(J.set at_ (a.at (tm:Int))).drop (out+1)),Bg mv x:=λx hx=>by
  rcases cW.mp hx with hx|hx
  ·exact GQ x (iO hx)
  ·exact GQ x (List.mem_of_mem_drop hx)
 have F3:=HM (J:=((J.set at_ (a.at (tm:Int))).take out++(J.set at_ (a.at (tm:Int))).drop (out+1))) hc (show 1<=mv by assumption) (by assumption) (by rw[cV,fK,gk,iz];omega) LU;refine wf (ρ':=[sL (ns.map .int),sI (mv:Int),sI (Ï:Int),U (cx (d6 c mv)),sI (R:Int),sI (most:Int),sL (J.map dw),U (dk (cJ ((d6 c mv).map .str) J) tbl (.lst []) n2),y8,sI vE,L,L,L]) (AZ LJ) ?_;refine wf (ρ':=[sL (ns.map .int),sI (mv:Int),sI (Ï:Int),U (cx (d6 c mv)),sI (R:Int),sI (most:Int),sL (J.map dw),U (dk (cJ ((d6 c mv).map .str) J) tbl (.lst []) n2),y8,sI vE,sI (at_:Int),L,L]) (AZ ?_) ?_
 ·show i7 (.int vE) (.int (Ï:Int))=_;exact(Dl _).trans (congrArg U GJ)
 refine wf (ρ':=[sL (ns.map .int),sI (mv:Int),sI (Ï:Int),U (cx (d6 c mv)),sI (R:Int),sI (most:Int),sL (J.map dw),U (dk (cJ ((d6 c mv).map .str) J) tbl (.lst []) n2),y8,sI vE,sI (at_:Int),sI (tm:Int),L]) (AZ ?_) ?_
 ·show((kG (.int vE) (.int 16)).bind λx=>i7 x (.int 30))=_;rw[vt (by decide) (by decide)];show i7 (.int (vE/16)) (.int 30)=_;rw[u7 (by decide),GM]
 have z1:iK [.int (at_:Int)]=U (.str (dn (at_:Int))):=Ep (by omega) (by omega);have MN:iK [.int (tm:Int)]=U (.str (dn (tm:Int))):=Ep (by omega) (by omega);have MO:iK [.int (out:Int)]=U (.str (dn (out:Int))):=Ep (by omega) (by omega);have i1:=xt (n:=at_) (by omega);have i2:=xt (n:=tm) (by omega);have i3:=xt (n:=out) (by omega);have l7:("change ":Str).length=7:=by decide +kernel
 have l1:(" ":Str).length=1:=by decide +kernel
 have l4:("cut ":Str).length=4:=by decide +kernel
 refine wf (ρ':=[sL (ns.map .int),sI (mv:Int),sI (Ï:Int),U (cx (d6 c mv)),sI (R:Int),sI (most:Int),sL (J.map dw),U (dk (cJ ((d6 c mv).map .str) (J.set at_ (a.at (tm:Int)))) .non (.lst []) (n2+1)),y8,sI vE,sI (at_:Int),sI (tm:Int),L]) (Gv (HN (Ex (i:=7) (row:=.str (Str.join (eX 32) ["change",dn (at_:Int),dn (tm:Int)])) rfl ?_ (UR ha Cw.r.r (by omega) (by omega) F.nm F.ne F2.ok))) rfl) ?_
 ·have d1:dF (.str "change ") (.str (dn (at_:Int)))=U (.str ("change "++dn (at_:Int))):=xu (by omega);have d2:dF (.str ("change "++dn (at_:Int))) (.str " ")=U (.str ("change "++dn (at_:Int) ++ " ")):=xu (by rw[vz];omega);have d3:dF (.str ("change "++dn (at_:Int) ++ " ")) (.str (dn (tm:Int)))=U (.str (Str.join (eX 32) ["change",dn (at_:Int),dn (tm:Int)])):=by rw[xu (by rw[vz,vz];omega),Vr]
  show((((((iK [.int (at_:Int)]).bind λy=>dF (.str "change ") y).bind λx=>dF x (.str " ")).bind λx=>(iK [.int (tm:Int)]).bind λy=>dF x y)).bind λx=>U [x])=_;rw[z1,MN];show(((((dF (.str "change ") (.str (dn (at_:Int))))).bind λx=>dF x (.str " ")).bind λx=>dF x (.str (dn (tm:Int)))).bind λx=>U [x])=_;rw[d1];show((((dF (.str ("change "++dn (at_:Int))) (.str " "))).bind λx=>dF x (.str (dn (tm:Int)))).bind λx=>U [x])=_;rw[d2];show((dF (.str ("change "++dn (at_:Int) ++ " ")) (.str (dn (tm:Int)))).bind λx=>U [x])=_;rw[d3];rfl
 refine wf (ρ':=[sL (ns.map .int),sI (mv:Int),sI (Ï:Int),U (cx (d6 c mv)),sI (R:Int),sI (most:Int),sL ((J.set at_ (a.at (tm:Int))).map dw),U (dk (cJ ((d6 c mv).map .str) (J.set at_ (a.at (tm:Int)))) .non (.lst []) (n2+1)),y8,sI vE,sI (at_:Int),sI (tm:Int),L]) ?_ ?_
 ·have xa:dX (.lst (J.map dw)) (.int (at_:Int))=U (dw a):=yc (by rw[dm,ha];rfl);have st:mI (J.map dw) (at_:Int) (dw (a.at (tm:Int)))=U ((J.set at_ (a.at (tm:Int))).map dw):=by unfold mI;rw[OZ (by rw[cA];omega),List.map_set];rfl
  have vl:(e2 dF (λZ=>((e2 dX (C 6) (C 10)) Z).bind λd=>(î Z).bind λl=>((Û (eC (.int 3))) Z).bind λh=>sY d l h) (λZ=>((Ä (C 11) (Ä (e2 dX (e2 dX (C 6) (C 10)) (eC (.int 4))) Å)) Z).bind λS=>U (.tup S))) [sL (ns.map .int),sI (mv:Int),sI (Ï:Int),U (cx (d6 c mv)),sI (R:Int),sI (most:Int),sL (J.map dw),U (dk (cJ ((d6 c mv).map .str) (J.set at_ (a.at (tm:Int)))) .non (.lst []) (n2+1)),y8,sI vE,sI (at_:Int),sI (tm:Int),L]=U (dw (a.at (tm:Int))):=by have sl:sY (dw a) L (U 3)=U (.tup [.str (hG a.c),.int (a.s:Int),.int (a.g:Int)]):=rfl;have x4:dX (dw a) (.int 4)=sI (a.b:Int):=yc (j:=4) rfl;have ad:dF (.tup [.str (hG a.c),.int (a.s:Int),.int (a.g:Int)]) (.tup [.int (tm:Int),.int (a.b:Int)])=U (dw (a.at (tm:Int))):=rfl;generalize dw (a.at (tm:Int))=E2,D.tup [.str (hG a.c),.int (a.s:Int),.int (a.g:Int)]=T3,dw a=E1,J.map dw=A,cx (d6 c mv)=NN,ns.map D.int=ϙ,dk (cJ ((d6 c mv).map .str) (J.set at_ (a.at (tm:Int)))) .non (.lst []) (n2+1)=DD at *;clear st tl Mz F F2 F3 hD GQ LU Cw ha qn qa jn jl ag z1 MN MO LJ Dl GJ GM GL DY;walk_at "mid"
  unfold sW;rw[vl];show((mI (J.map dw) (at_:Int) (dw (a.at (tm:Int)))).bind _)=_;rw[st];rfl
 refine wf (ρ':=[sL (ns.map .int),sI (mv:Int),sI (Ï:Int),U (cx (d6 c mv)),sI (R:Int),sI (most:Int),sL ((J.set at_ (a.at (tm:Int))).map dw),U (dk (cJ ((d6 c mv).map .str) (J.set at_ (a.at (tm:Int)))) .non (.lst []) (n2+1)),y8,sI vE,sI (at_:Int),sI (tm:Int),sI (out:Int)]) (AZ ?_) ?_
 ·show((kG (.int vE) (.int 480)).bind λx=>i7 x (.int (Ï:Int)))=_;rw[vt (by decide) (by decide)];show i7 (.int (vE/480)) (.int (Ï:Int))=_;exact(Dl _).trans (congrArg U GL)
 refine wf (ρ':=[sL (ns.map .int),sI (mv:Int),sI (Ï:Int),U (cx (d6 c mv)),sI (R:Int),sI (most:Int),sL ((J.set at_ (a.at (tm:Int))).map dw),U (dk (cJ ((d6 c mv).map .str) ((J.set at_ (a.at (tm:Int))).take out++(J.set at_ (a.at (tm:Int))).drop (out+1))) .non (.lst []) (n2+1+1)),y8,sI vE,sI (at_:Int),sI (tm:Int),sI (out:Int)]) (Gv (HN (Ex (i:=7) (row:=.str (Str.join (eX 32) ["cut",dn (out:Int)])) rfl ?_ (Zf (by rw[iz];omega) (by rw[iz];omega) F.nm F.ne F3.ok))) rfl) ?_
 ·show(((iK [.int (out:Int)]).bind λy=>dF (.str "cut ") y).bind λx=>U [x])=_;rw[MO];show((dF (.str "cut ") (.str (dn (out:Int)))).bind λx=>U [x])=_;rw[xu (by omega),Kb (w:="cut") (by decide +kernel)];rfl
 obtain⟨n5,SI⟩:=P1 (tbl:=.non) (pt:=.lst []) (n:=n2+1+1) F3 (show R<=80 by omega) (show 1<=most by assumption) (by assumption) (gs:=Ä (e2 dF (λZ=>((C 6) Z).bind λd=>(î Z).bind λl=>((Û (C 12)) Z).bind λh=>d7 d l h) (λZ=>((C 6) Z).bind λd=>((Û (e2 dF (C 12) (eC (.int 1)))) Z).bind λl=>(î Z).bind λh=>d7 d l h)) (Ä (C 3) (Ä (C 4) (Ä (C 5) Å)))) (Z:=[sL (ns.map .int),sI (mv:Int),sI (Ï:Int),U (cx (d6 c mv)),sI (R:Int),sI (most:Int),sL ((J.set at_ (a.at (tm:Int))).map dw),U (dk (cJ ((d6 c mv).map .str) ((J.set at_ (a.at (tm:Int))).take out++(J.set at_ (a.at (tm:Int))).drop (out+1))) .non (.lst []) (n2+1+1)),y8,sI vE,sI (at_:Int),sI (tm:Int),sI (out:Int)]) rfl (by
  have s1:d7 (.lst ((J.set at_ (a.at (tm:Int))).map dw)) L (U (out:Int))=sL (((J.set at_ (a.at (tm:Int))).take out).map dw):=by rw[xf,Kh,←Ce]
  have s2:d7 (.lst ((J.set at_ (a.at (tm:Int))).map dw)) (U ((out:Int)+1)) L=sL (((J.set at_ (a.at (tm:Int))).drop (out+1)).map dw):=by rw[xf,show(out:Int)+1=((out+1:Nat):Int)by omega,xo,←Cd]
  have s3:dF (.lst (((J.set at_ (a.at (tm:Int))).take out).map dw)) (.lst (((J.set at_ (a.at (tm:Int))).drop (out+1)).map dw))=sL (((J.set at_ (a.at (tm:Int))).take out++(J.set at_ (a.at (tm:Int))).drop (out+1)).map dw):=by rw[fV];exact ve (by simp only[cA,fK,gk,iz];omega)
  show((((d7 (.lst ((J.set at_ (a.at (tm:Int))).map dw)) L (U (out:Int))).bind λx=>(d7 (.lst ((J.set at_ (a.at (tm:Int))).map dw)) (U ((out:Int)+1)) L).bind λy=>dF x y)).bind λx=>U (x::[cx (d6 c mv),.int (R:Int),.int (most:Int)]))=_;rw[s1,s2];show((dF (.lst (((J.set at_ (a.at (tm:Int))).take out).map dw)) (.lst (((J.set at_ (a.at (tm:Int))).drop (out+1)).map dw))).bind λx=>U (x::[cx (d6 c mv),.int (R:Int),.int (most:Int)]))=_;rw[s3]
  rfl)
 show(Cg (Cg (qR 7 [1,0,0,0] _ gM _) _) _)=_;rw[SI];rfl
section
variable {P:eu}{w:dP}{base:cM}{a:ć}
theorem ŀ (T:Txt K mg a w):dL P w K mg base fJ 10 a.ce a.cf ["_law_script"] (uD K):=Z1 (ũ T) Xj
end
theorem fin {l:rj}{w:dP}{fa:cr}{a:ć}(Rn:mg "law"=U (.ref fa))(T:Txt K mg a w)(b:∀(s:cE) (v:cj),tw s a.cf ⟨[v],[]⟩ [("_law_script",v)]) :
  ∃fd:cz,(∀(s:cE) (v:cj),tw s fd ⟨[v],[]⟩ [("_law_script",v)])/\∀base:cM,K.In base->base.Ns dW mg->dL l.prog w K mg base fJ 10 fa fd ["_law_script"] (uD K):=by
 cases Rn.symm.trans T.a9.mgx;exact⟨_,b,λ_ _ _=>ŀ T⟩
theorem walk {l:rj}{q:eu}{loose:List Str}{XP:(Str->Option cj)->cM->Prop}{YP:dP->cM->Prop}{d:DefRec}{K:Params->cm}(hn:l.most=U 63)(E6:d.params.defaults=[])
  (hY:∀(w:dP) (h:cM),YP w h->(K w.params).In h)
  (F:∀(w:dP) (mg:Str->Option cj) (fa:cr) (h:cM),(K w.params).In h->h.Ns dW mg->mg d.name=U (.ref fa) ->
   ∃fd:cz,(∀(s:cE) (u:cj),tw s fd ⟨[u],[]⟩ [("_law_script",u)])/\∀base:cM,(K w.params).In base->base.Ns dW mg->dL l.prog w (K w.params) mg base fJ 10 fa fd ["_law_script"] (uD (K w.params))) :
  Ak q loose XP YP l.row.toRowW d [] (λf vs=>PySem.call f vs) :=
 L2.Ă (n:=63) (k:=10) (x:="_law_script") (CX:=λ_=>fJ) (sp:=λw=>uD (K w.params)) hn (by decide) E6 ⟨rfl,by decide,by decide,rfl⟩ hY F (λ_ _ a ns hl _ hS=>⟨a,ns,rfl,hS,hl,λ_=>rfl⟩) λ_ _ _ _ _ z=>z
end My
-- KEEP
local macro_rules | `(tactic| walk_at "zk") => `(tactic| focus (repeat' first | k_is | apply L3.ġ (by assumption) (by assumption) | exact .non | exact .int | exact .str | apply L3.KC.kt | apply L3.ā.nil | apply L3.ā.cons | exact Nat.le_of_ble_eq_true rfl | rfl))
local macro_rules | `(tactic| walk_at "zg") => `(tactic| focus (repeat' first | k_is | apply L3.ğ (by assumption) (by assumption) | apply L3.KL.nil | apply L3.KL.cons | exact L2.EL.nil | apply L2.EL.cons | exact .non | exact .int | exact .str | apply L3.KC.kt | apply L3.ā.nil | apply L3.ā.cons | exact Nat.le_of_ble_eq_true rfl | rfl))
local macro_rules | `(tactic| walk_at "zf") => `(tactic| focus (repeat' first | k_is | apply L3.Ġ (by assumption) (by assumption) | exact trivial | apply And.intro | exact L2.EL.nil | apply L2.EL.cons | exact .non | exact .int | exact .str | apply L3.KC.kt | apply L3.ā.nil | apply L3.ā.cons | exact Nat.le_of_ble_eq_true rfl | rfl))
open PySem PySem.W PyProof.Rows
set_option maxRecDepth 100000 in
set_option maxHeartbeats 0 in
theorem PySem.Challenge.cw_ringbeat_k93_whole_text_again_holds : PySem.Challenge.rw_ringbeat_k93_whole_text_again.Holds := by
 refine PySem.Challenge.hd ?_
 w_on
 k_fill
 refine My.walk (l := PySem.Challenge.rw_ringbeat_k93_whole_text_again) rfl rfl (fun w h Ϛ => PySem.W.kIn_of Ϛ) ?F
 case F =>
  intro w mg fa h KX Ϙ hmg
  refine' My.fin (a := .mk ..) hmg ?T ?b
  case T =>
   constructor
   all_goals try dsimp only [My.ć.ct]
   iterate 7 exact L3.zC
   iterate 2 exact L3.zM
   exact L3.zM (b := L3.zE 5 (L3.č fun _ _ _ _ _ => ⟨_, rfl, rfl⟩))
   (refine' L3.þ 4 0 rfl rfl ?r1 ?r2 ?r3 ?r4; (case r1 => k_is); (case r2 => rfl); (case r3 => exact (.cons ⟨_, rfl⟩ .nil)); (case r4 => exact L3.ĉ fun _ _ _ _ => ⟨_, rfl, rfl⟩))
   exact L3.zM (b := L3.zE 5 (L3.č fun _ _ _ _ _ => ⟨_, rfl, rfl⟩))
   (refine' L3.þ 4 0 rfl rfl ?r1 ?r2 ?r3 ?r4; (case r1 => k_is); (case r2 => rfl); (case r3 => exact (.cons ⟨_, rfl⟩ .nil)); (case r4 => exact L3.ĉ fun _ _ _ _ => ⟨_, rfl, rfl⟩))
   iterate 7 exact L3.zD
   iterate 4 exact L3.zM
   iterate 13 exact L3.zD
   exact L3.zD (b := L3.zE 4 (L3.ĉ fun _ _ _ _ => ⟨_, rfl, rfl⟩))
   (refine' L3.þ 3 1 rfl rfl ?r1 ?r2 ?r3 ?r4; (case r1 => k_is); (case r2 => rfl); (case r3 => exact (.cons rfl .nil)); (case r4 => exact L3.Ď fun _ _ _ => ⟨_, rfl, rfl⟩))
   (refine' L3.þ 2 0 rfl rfl ?r1 ?r2 ?r3 ?r4; (case r1 => k_is); (case r2 => rfl); (case r3 => exact (.cons rfl (.cons rfl .nil))); (case r4 => exact L3.ď fun _ _ => ⟨_, rfl, rfl⟩))
   iterate 8 exact L3.zD
   exact L3.zD (b := L3.zE 3 (L3.Ď fun _ _ _ => ⟨_, rfl, rfl⟩))
   (refine' L3.þ 2 0 rfl rfl ?r1 ?r2 ?r3 ?r4; (case r1 => k_is); (case r2 => rfl); (case r3 => exact (.cons rfl .nil)); (case r4 => exact L3.ď fun _ _ => ⟨_, rfl, rfl⟩))
   iterate 19 exact L3.zD
   iterate 2 exact L3.zM
   iterate 13 exact L3.zD
   iterate 2 walk_at "zk"
   walk_at "zg"
   walk_at "zf"
   exact ⟨by k_is, by k_is, by k_is⟩
   iterate 10 ((repeat refine L3.zF ?_); exact L3.ą)
   iterate 3 ((repeat refine L3.zI ?_); exact L3.ą)
   iterate 11 exact L3.zB
   iterate 6 exact L3.zG
  exact fun s v => .of_eq rfl
