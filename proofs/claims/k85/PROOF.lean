import PyProof.Rows.All
import Wide.All
import KE.KDictOf
import KE.LcSums
import KE.KRevIter
import KE.KDictList
import KE.KUnpack
import KE.KSortTup
import KE.KIntText
import KE.KTryMore
import KE.KFromBytes
import Wide.FinOn
import KE.RegKIsAll
import Lean
import PySem.Challenge.RW_ringbeat_k85_desk_told
set_option Elab.async false
set_option linter.all false
set_option compiler.extract_closed false
set_option genSizeOf false
set_option maxRecDepth 100000
set_option maxHeartbeats 4000000
namespace PySem.W.Fast
def tw7337605908284445403:=0
def tw12036002276824779200:=0
def tw18002833660877785059:=0
def tw2107134041426853528:=0
def tw7838669319408505745:=0
def tw5763785175740020572:=0
def tw4311045786178695364:=0
def tw10872897953760387269:=0
def tw5195949611898382615:=0
def tw4774558616792679672:=0
def tw6893546497641998704:=0
def tw18117742892007229862:=0
def tw2663134497348703037:=0
def tw13245837107258021570:=0
def tw12464250390800134317:=0
def tw12361694237804235754:=0
def tw14468053534507464323:=0
def tw16498777015772260349:=0
def tw18147891781342987349:=0
def tw14880161899950185615:=0
def tw6885417997323685665:=0
def tw17987825326919843529:=0
def tw131296072504910853:=0
def tw9847149549385282875:=0
def tw5678710873526531156:=0
def tw3916154650032958175:=0
def tw15752224129997259539:=0
def tw3080848276900061889:=0
def tw6281340670697316992:=0
def tw14424504578027385112:=0
def tw13283709174802737673:=0
def tw13661629501866284751:=0
def tw9930563490563300203:=0
def tw17142438272206516577:=0
def tw6013732886842322007:=0
def tw17444380912093417342:=0
def tw9413167700616245061:=0
def tw1462876106846248189:=0
def tw1843330274065777065:=0
def tw9460832150159439005:=0
def tw7527799060842075054:=0
def tw10869685419237273542:=0
def tw13668276560052574877:=0
def tw8939254977868589530:=0
def tw2756474420709086835:=0
def tw10330250023528118588:=0
def tw2832255652678659300:=0
def tw18397641487235831338:=0
def tw4231637213880009443:=0
def tw12570025005972801781:=0
def tw9289646308057276970:=0
def tw3019804113327870093:=0
def tw8047293218686611342:=0
def tw5246623162062998095:=0
def tw13410721110248125112:=0
def tw18161608736612452523:=0
def tw6743514565716447211:=0
def tw6181454193412669305:=0
def tw10260296675146067156:=0
def tw9545677033634119560:=0
def tw7034210877552506758:=0
def tw7380235708987649732:=0
def tw3555194043904400604:=0
def tw5352329410314296844:=0
def tw3863911940358595544:=0
def tw2743018431186529800:=0
def tw11388016833802751530:=0
def tw11912097832835978016:=0
def tw8582187477388120129:=0
def tw13563583082654832532:=0
def tw10934534130727672278:=0
def tw5280544647975642958:=0
def tw8661022975843002404:=0
def tw13498969387517174907:=0
def tw8850211027929678880:=0
def tw305080721844537094:=0
def tw2521132273732994733:=0
def tw8605253745420540478:=0
def tw7591402778804540754:=0
def tw6890056427489797719:=0
def tw15443653157089060641:=0
def tw9069822407734730701:=0
def tw4070085282449365194:=0
def tw15266266958325024012:=0
def tw5810339231678414005:=0
def tw6598470774571000660:=0
def tw8535971101304656054:=0
def tw17143407186312659183:=0
def tw2449584457684994207:=0
def tw4049278868326696241:=0
def tw4563828821813134428:=0
def tw2275575483964367031:=0
def tw6167152642095586185:=0
def tw14941415076483763962:=0
def tw10773167370179511130:=0
def tw2100446389736417375:=0
def tw12426052869174793394:=0
def tw4760784216400123171:=0
def tw10148686130846746652:=0
def tw5856264819112728020:=0
def tw682509728702249737:=0
def tw10006582616897081145:=0
def tw10698618801298633793:=0
def tw2625744509549955231:=0
def tw2455187189852508131:=0
def tw12635601625792491235:=0
def tw7752817139643040733:=0
def tw4174049640664121235:=0
def tw9985005617883165880:=0
def tw18366512518603614840:=0
def tw13272668960339457100:=0
def tw17076747114588981916:=0
def tw18171102841955170268:=0
def tw15266349367044267854:=0
def tw4834726490632192950:=0
def tw3762208554546127370:=0
def tw1061491778649283258:=0
def tw1798489981756054255:=0
def tw1356118886138156791:=0
def tw11922447573509473452:=0
def tw10676971187919969510:=0
def tw16042537136121514554:=0
def tw17527557582173027222:=0
def tw6106058372988661865:=0
def tw16562205827157788010:=0
def tw1743526695073756365:=0
def tw46659475569477864:=0
def tw18262248704349862890:=0
def tw12917268675175502785:=0
def tw11448335492297295390:=0
def tw6973801746104949609:=0
def tw5072351160120850599:=0
def tw1779273105678936920:=0
def tw1454712641253965810:=0
def tw4087206373667485235:=0
def tw6642394905693246770:=0
def tw15641323515649296801:=0
def tw18310431591276802906:=0
def tw7229778699586512183:=0
def tw9611581114326341354:=0
def tw1685967307860166875:=0
def tw11885337044681347712:=0
def tw1932568956964120650:=0
def tw18443637179730648005:=0
def tw10548398957003577294:=0
def tw17217970531173427943:=0
def tw9876074290042493308:=0
def tw3783040918044280:=0
def tw11807406346936085521:=0
def tw16712392565524124088:=0
def tw229915819631643194:=0
def tw6917679969603407906:=0
def tw14951182121656273819:=0
def tw12321291507954470753:=0
def tw12482200487637181401:=0
def tw6232540265587663372:=0
def tw8790360430392698371:=0
def tw788171203658247390:=0
def tw6372668014499622775:=0
def tw5810566510885588398:=0
def tw10559147290554872940:=0
def tw12311829100406865112:=0
def tw889349453201974125:=0
def tw5731167819798756896:=0
def tw18418203492820227725:=0
def tw1107560498601478883:=0
def tw11636405052187859974:=0
def tw15991177162763749461:=0
def tw8604257043265508281:=0
def tw6793798084945537298:=0
def tw10125371186571471670:=0
def tw5672314666978330176:=0
def tw16805604767622783124:=0
def tw4376666790780293573:=0
def tw6630336408239595940:=0
def tw12934742211362215766:=0
def tw4235142444101570902:=0
def tw16241261766166887226:=0
def tw4142816124901501335:=0
def tw1929649262345978189:=0
def tw17118253508128766438:=0
def tw268172330257315576:=0
def tw6574162330536261823:=0
def tw17298728687398095427:=0
def tw9658492292197672664:=0
def tw13434714201406150082:=0
def tw11565101880229420232:=0
def tw15118314276396539117:=0
def tw10402844070324459780:=0
def tw9749640348384189484:=0
def tw15156541167523411284:=0
def tw17956174282920656353:=0
def tw2043623902123591976:=0
def tw13517266583193282974:=0
def tw17046255065303635350:=0
def tw14190339852021825290:=0
def tw10499459367881675064:=0
def tw3044744007141094489:=0
def tw16391737996100521912:=0
def tw7097895649412617562:=0
def tw15345179373934675063:=0
def tw14559603829930769130:=0
def tw18166995630043335119:=0
def tw6789616505058805132:=0
def tw18167886609372958265:=0
def tw2353389275239337000:=0
def tw16270939220064284248:=0
def tw1727791878702259216:=0
def tw86688857714089130:=0
def tw3735397746155457578:=0
def tw635749783926292892:=0
def tw3036226440199092286:=0
def tw14785113644163316884:=0
def tw17517703777145792013:=0
def tw17900667973644028587:=0
def tw9425893862980610349:=0
def tw1973139594062176201:=0
def tw15069076790561863201:=0
def tw14413927796909644782:=0
def tw222458587159506817:=0
def tw1467994975604170842:=0
def tw8931989956735944324:=0
def tw614143378159028287:=0
def tw9299718813006197732:=0
def tw13709405085105275021:=0
def tw3670247280269394975:=0
def tw12255901566760406382:=0
def tw1499579060393644250:=0
def tw2373543394765977276:=0
def tw11183994510384506652:=0
def tw2192194183350307021:=0
def tw16159737532400126269:=0
def tw5266230898364520507:=0
def tw3302800907444480161:=0
def tw662836758025161823:=0
def tw534318095337744627:=0
def tw16748815379967743920:=0
def tw10292563190655081119:=0
def tw12029371844433552953:=0
def tw6409949673440004677:=0
def tw3528095371495406150:=0
def tw16506891633611626718:=0
def tw1315572522613727854:=0
def tw3018162688658662317:=0
def tw3834278152298978124:=0
def tw7855795817619962177:=0
def tw15693524333615233107:=0
def tw5928626875851777850:=0
def tw1349905137090614705:=0
def tw11381779574374198173:=0
def tw16695293420153542750:=0
def tw6825499980053702789:=0
def tw261569087075202090:=0
def tw3282685234382742693:=0
def tw14859372700282053379:=0
def tw11992136843937911535:=0
def tw4590584190604014853:=0
def tw12871458346896916827:=0
def tw3115782701454796461:=0
def tw15580656591449547051:=0
def tw6648691617408665974:=0
def tw12047368430555367155:=0
def tw1937469806037057344:=0
def tw12994478621313973525:=0
def tw1246186251144729147:=0
def tw7914255198886259602:=0
def tw12250188158928933967:=0
def tw2840067420705515552:=0
def tw14090385409373060308:=0
def tw13292332857021655163:=0
def tw14104320629716537131:=0
def tw3907024656319693505:=0
def tw17921013222067826295:=0
def tw10230000700617361720:=0
def tw1056457320319474723:=0
def tw12266641221895405913:=0
def tw5829709630457405366:=0
def tw2712559557389219645:=0
def tw10178279195965538740:=0
def tw15397921963824984484:=0
def tw10952994608498245626:=0
def tw3710899236078637123:=0
def tw14204823869929384073:=0
def tw952712918471702324:=0
def tw14554663214862410434:=0
def tw11401068808991081857:=0
def tw10805403942848629616:=0
def tw16382564453632408998:=0
def tw8298672360417352168:=0
def tw17497941776243628536:=0
def tw11261870164662801058:=0
def tw4911765688553384493:=0
def tw11055646618570814509:=0
def tw11489979085619262881:=0
def tw10158443189792357315:=0
def tw7415843702103683986:=0
def tw11964638069331594483:=0
def tw9887084238740129302:=0
def tw6929076949109133105:=0
def tw974281344954412800:=0
def tw12102388370634488220:=0
def tw4074945450301247791:=0
def tw16113817976569302998:=0
def tw7975098435261551387:=0
def tw12489859137160638183:=0
def tw2011420231899099907:=0
def tw14001247230269390771:=0
def tw14743261847208913739:=0
def tw6122326299920364318:=0
def tw1642990158979385037:=0
def tw2299233272354304024:=0
def tw16047095151376743677:=0
def tw13693870472371493406:=0
def tw14664013538915446081:=0
def tw5635194851160491144:=0
def tw8051413445001525745:=0
def tw9173232396479088664:=0
def tw11686963771818812140:=0
def tw7509664740323264749:=0
def tw10324395217752263966:=0
def tw6120636570190819811:=0
def tw8822675430000383945:=0
def tw13329141244912704348:=0
def tw5555882063923173011:=0
def tw15071724856088404432:=0
def tw12982247176181451512:=0
def tw17426253050614115887:=0
def tw5910731478065362957:=0
def tw293431403705018295:=0
def tw14233553837690250730:=0
def tw10421219047506012070:=0
def tw6152654555808454090:=0
def tw2443554949373459491:=0
def tw7042819068985650698:=0
def tw1465708796042303730:=0
def tw15889324608312700293:=0
def tw5434740266287076646:=0
def tw773837588089752436:=0
def tw11100846869508143556:=0
def tw8215150849042050174:=0
def tw10808931265645727203:=0
def tw5697853052144626633:=0
def tw929352743209543007:=0
def tw15705121017984880494:=0
def tw507852180776508639:=0
def tw4738987676439515428:=0
def tw17444010266883156889:=0
def tw10310332616933029506:=0
def tw10102562476119604515:=0
def tw15964609209146670129:=0
def tw12173054268481260082:=0
def tw14422072923620769420:=0
def tw829143046149414128:=0
def tw7350230886168056836:=0
def tw10959281252901982836:=0
def tw11752426673218823892:=0
def tw520324120003024646:=0
def tw16816451006675497786:=0
def tw4741236549577381293:=0
def tw13947416376621420635:=0
def tw11429753012899440513:=0
def tw3310211710763114205:=0
def tw17178897200674954731:=0
def tw12418259020175671862:=0
def tw17332518857721784942:=0
def tw4474980687375805942:=0
def tw11016731713179036456:=0
def tw2753177251917509520:=0
def tw17383400255125088082:=0
def tw10739730180952657627:=0
def tw8063849301607948182:=0
def tw8557817861944229406:=0
def tw7277085803532977429:=0
def tw9405881102905124555:=0
def tw3951588564277477900:=0
def tw15943358354443407231:=0
def tw7535632274247941550:=0
def tw3638776332105225423:=0
def tw1106856558378582783:=0
def tw15491237217520474925:=0
def tw3389722045823070620:=0
def tw12379889116212122844:=0
def tw2244945325512741758:=0
def tw6535926744727866155:=0
def tw7879725201748948576:=0
def tw12626630976004486890:=0
def tw17299010855461826998:=0
def tw182905923901357201:=0
def tw10900322794384949508:=0
def tw8016877248948876644:=0
def tw5048515185927600058:=0
def tw3558892032306533774:=0
def tw1527682920316557403:=0
def tw14847229529956267866:=0
def tw1663260961033258568:=0
def tw8914008921448317861:=0
def tw11392790482888773011:=0
def tw6190388798503830724:=0
def tw11631105909110695692:=0
def tw8410502130519771029:=0
def tw16605254171821909955:=0
def tw11615437769533623045:=0
def tw513005606438955169:=0
def tw14124977497012925699:=0
def tw16977315618606346005:=0
def tw15662251291172155750:=0
def tw14562507204147832040:=0
def tw6669849839155282124:=0
def tw10738775926107536565:=0
def tw2599633771588250269:=0
def tw5685012889404086773:=0
def tw16847356055486053210:=0
def tw14861688156016419067:=0
def tw2767922137636188828:=0
def tw2961557192639062826:=0
def tw17710913405590922262:=0
def tw4254759905417533751:=0
def tw5054211826042010861:=0
def tw13864479163907964222:=0
def tw13880715845325369581:=0
def tw9072905308926727421:=0
def tw17340771677684676946:=0
def tw4344812326457667244:=0
def tw892925065853493074:=0
def tw7326574103108340045:=0
def tw6170367583411503908:=0
def tw17970855819746949387:=0
def tw10576078643999795911:=0
def tw13482304243288587505:=0
def tw9849417791331918024:=0
def tw16036673980134197800:=0
def tw18143374269899021593:=0
def tw12956513119201107808:=0
def tw7628517622463246403:=0
def tw9419729269623698746:=0
def tw1636437973035628045:=0
def tw7286064169854153936:=0
def tw18418892866214841603:=0
def tw14339529208003565878:=0
def tw13899944232051003570:=0
def tw14037694604911994256:=0
def tw6904042868320053861:=0
def tw13382811022291172425:=0
def tw11149769947533312824:=0
def tw6799739093365534119:=0
def tw3414255953753146940:=0
def tw14657490945362595769:=0
def tw4174280700831360196:=0
def tw16260925912512855970:=0
def tw834236281615135995:=0
def tw8758104930039445516:=0
def tw12412905107561893832:=0
def tw8111453790866861684:=0
def tw14882294452342321373:=0
def tw11493844974663300754:=0
def tw7063289189189765306:=0
def tw6192833057441275720:=0
def tw18021899943202104059:=0
def tw9900519664884561676:=0
def tw17162598796963906856:=0
def tw3578923988131111148:=0
def tw626696500009388147:=0
def tw6943184647599026698:=0
def tw7921085658859955724:=0
def tw1516984220946874056:=0
def tw8457637714350975149:=0
def tw172442617530688986:=0
def tw7586320794767148349:=0
def tw7251443471336825237:=0
def tw13404478889411092250:=0
def tw4364673132216959011:=0
def tw3826831195200214875:=0
def tw12867728416774249363:=0
def tw13617065567282735415:=0
def tw16128354933151589658:=0
def tw91947965078982000:=0
def tw14354744343094910557:=0
def tw6285604059285450280:=0
def tw15963801691374436739:=0
def tw9363833089418762066:=0
def tw7638029746692563511:=0
def tw359321831430071410:=0
def tw8886063228545124322:=0
def tw13806005938606116666:=0
def tw18437486690731628253:=0
def tw7412153678192698180:=0
def tw5413866021262110790:=0
def tw10071336280972448324:=0
def tw41765653649800070:=0
def tw6034775642586406522:=0
def tw13479723464530289419:=0
def tw16671656765224999657:=0
def tw3741209900485371430:=0
def tw3637843315264040724:=0
def tw6658052466719814655:=0
def tw278091425418800429:=0
def tw1830895254914965163:=0
def tw4203518752531648031:=0
def tw9403578141333635667:=0
def tw8598807260647849255:=0
def tw15931703023824590139:=0
def tw15113431946868946781:=0
def tw18332061119468829467:=0
def tw9886328818518206503:=0
def tw12028743017661600286:=0
def tw11373380316566804331:=0
def tw14406436989687428313:=0
def tw10491091718325126814:=0
def tw9831409566331976608:=0
def tw3402219579754563298:=0
def tw261540769544123157:=0
def tw981816797675697407:=0
def tw7283419110874587053:=0
def tw11492056139014383687:=0
def tw5655332429124515980:=0
def tw2727684065509078607:=0
def tw13228637998752459741:=0
def tw14061697006318744936:=0
def tw4744998357756567513:=0
def tw7014686596129358684:=0
def tw7405901149790420175:=0
def tw15758072252899994852:=0
def tw12094947580656136459:=0
def tw6085769415541586026:=0
def tw39765813743702908:=0
def tw15087328118174271774:=0
def tw12836390235026764026:=0
def tw367066482932049919:=0
def tw15556859418065378706:=0
def tw11412386906116446507:=0
def tw5183835740710425471:=0
def tw6704996971759313750:=0
def tw10384670766574601406:=0
def tw9998907336409617499:=0
def tw6034497367434170786:=0
def tw7592283822709305711:=0
def tw10995651232587989834:=0
def tw108008266382151090:=0
def tw13284527500695403464:=0
def tw5944185585537959212:=0
def tw16859354983909901183:=0
def tw16052899454938688212:=0
def tw17797163926503162155:=0
def tw7467753989346700087:=0
def tw5457194228992512469:=0
def tw2105337121195910961:=0
def tw7994811133207094303:=0
def tw4500691669505503544:=0
def tw10083664870954640556:=0
def tw18060354217218886324:=0
def tw15357139516351185584:=0
def tw17195450797910891439:=0
def tw9684001121172112941:=0
def tw13753215715316257843:=0
def tw14219895467695339487:=0
def tw13294645775010018508:=0
def tw477278278626943094:=0
def tw16322500210710719807:=0
def tw6548796103926503325:=0
def tw87338304871391789:=0
def tw10914688305822425398:=0
def tw9170526843170322994:=0
def tw16554919039600049835:=0
def tw17955232290739182439:=0
def tw11101490830900998463:=0
def tw8585629855265468073:=0
def tw9607932775745873211:=0
def tw1496200957944681917:=0
def tw5378617225409959615:=0
def tw4525628798758225912:=0
def tw369947378833755530:=0
def tw1160215725700746923:=0
def tw17285904917583305627:=0
def tw16616180456404198723:=0
def tw9280695235260886411:=0
def tw9484157083819412839:=0
def tw623393167126745931:=0
def tw13342687158489663515:=0
def tw10277788567070271871:=0
def tw4298161980399558617:=0
def tw9813375126475462952:=0
def tw3969250894227179933:=0
def tw690706970909439662:=0
def tw10634580909950287647:=0
def tw12732305860837895686:=0
def tw7011922199736413106:=0
def tw12472441022300434507:=0
def tw4321701954304440154:=0
def tw5840856844609478258:=0
def tw16079007731994276664:=0
def tw4003386625023744766:=0
def tw15329939269000645752:=0
def tw12783750587914696299:=0
def tw963363872215188785:=0
def tw14231576204047518865:=0
def tw11941347885321003495:=0
def tw15103196933885404208:=0
def tw3557206000350962529:=0
def tw11860380473119244139:=0
def tw3455282592001398030:=0
end PySem.W.Fast
set_option maxRecDepth 100000 in
set_option maxHeartbeats 0 in
open_top PySem.Challenge.hd for PySem.Challenge.rw_ringbeat_k85_desk_told
open Array renaming length_toList→eP,append_assoc→tZ,find?_toList→t3,all_toList→vO,toList_inj→vP,replicate→wC,toList→Aa
open Bool renaming false_ne_true→bV,and_eq_true→cw,false_eq_true→e8,or_eq_true→jE,or_eq_false_iff→sU,eq_iff_iff→xN,false_and→yG,true_and→Ab
open Int renaming toNat_natCast→fJ,toNat_of_nonneg→gY,emod_lt_of_pos→ik,emod_nonneg→jK,natCast_nonneg→nv,zero_add→nP,fdiv_eq_ediv_of_nonneg→qC
open List renaming mem_cons_self→bF,mem_cons_of_mem→bJ,mem_cons→bL,length_cons→bM,length_map→bN,replicate→bQ,mem_append_right→bZ,mem_singleton→cj,size_toArray→cm,map_cons→cn,lookup_cons→cq,length_append→cv,getElem?_eq_getElem→cz,getElem?_eq_some_iff→cB,range→cC,mem_append_left→cG,not_mem_nil→cH,nodup_append→cI,mem_append→cL,nodup_nil→cQ,append_nil→cV,map_append→cW,nodup_cons→cX,getElem?_map→c9,mem_range→di,append_assoc→dz,length_range→dI,mem_map→dJ,getD_eq_getElem?_getD→dM,find?_cons→dN,length_drop→dQ,length_take→dR,replicate_succ→dX,set→d8,mem_filter→d9,map_map→eD,length_pos_iff→eQ,zip_cons_cons→e9,length_replicate→fu,mem_iff_getElem?→fw,all_cons→fL,all_eq_true→fS,take_of_length_le→gc,forIn_cons→gw,flatten_cons→gF,getElem?_append_left→gO,any_cons→hG,length_zip→hZ,drop_of_length_le→iC,forIn_nil→iD,range'_succ→iR,countP_cons→iS,nodup_range→iT,range_eq_range'→i7,getElem?_set_ne→i8,lookup→i9,mem_of_mem_take→jA,length_nil→jF,range_succ→jG,filterMap_cons→jL,countP_append→jZ,getElem?_append_right→ka,getElem?_replicate→kS,getElem_inj→kT,zipIdx_cons→kU,getElem?_set_self→lx,foldl_cons→lG,length_set→lH,of_mem_zip→lI,zipIdx_nil→lJ,mem_iff_getElem→mn,contains_cons→mY,findIdx?_eq_some_iff_getElem→ny,ext_getElem?→nF,getElem_mem→ot,range'→oK,take_append_of_le_length→oM,perm_ext_iff_of_nodup→pR,drop_eq_getElem_cons→qD,contains→qO,filter_cons_of_neg→rC,filter_cons_of_pos→rD,length_eq_zero_iff→rE,drop_eq_nil_of_le→rP,map_nil→rQ,range_succ_eq_map→rR,contains_iff_mem→sK,countP_singleton→sL,getElem?_eq_none→sM,length_singleton→sN,getElem_toArray→sV,length→sW,getElem?_range→t4,findIdx?_cons→uN,foldl→uO,mem_filterMap→uP,foldl_append→vQ,getElem?_set→vR,getElem_take→vS,take_sublist→vT,any_eq_true→wD,ext_getElem→wF,mem_flatMap→wG,nil_append→xO,drop_zero→yI,Pairwise→Ac,map_drop→Ad,map_take→Ae,sum_cons→Af
open Nat renaming le_refl→bY,ne_of_lt→cy,lt_of_lt_of_le→cF,le_trans→dC,zero_le→eY,lt_irrefl→gC,ne_of_gt→gP,min_self→jX,lt_succ_of_lt→kC,lt_succ_self→lh,min_eq_right→li,min_eq_left→lQ,lt_of_le_of_lt→nz,le_of_lt→nQ,le_of_succ_le→nR,le_total→nS,mod_lt→qE,succ_mul→sO,le_succ→t5,log2_lt→t6,pow_le_pow_right→t7
open Option renaming bind_some→dO,map_eq_some_iff→il,map_some→ou,isSome_iff_exists→pU,isSome_map→t9,getD_none→uQ,getD_some→uR
open PyProof.Rows renaming callWith_type1→eF,boot_zip→oN
open PySem renaming Value→bC,wpAny_bind→bD,Addr→bI,starEach→bK,Shared→bP,Heap→bU,FuncData→bW,wpAny_pure→b9,wpAny→ce,model→cr,PyData→cx,NameKind→cD,eval→cO,World→cY,Around→c7,mainGlobals→dg,backTo→dq,bootBuiltins→dr,Program→dA,Stmt→dH,behindInMarks→dU,compareOp→dZ,foldedSetIterable→ed,strIterType→ee,keywordEach→ek,sizeLine_eq→el,assignEach→eu,swapsWith→eI,wpAny_mono→eW,attributeBase→fB,binaryOp→fH,sysModules→fU,holding→gh,backToKw→gk,wpAny_passesOwn→gG,Obj→gH,wpAny_pyIter_list→gL,wpAny_truthy_bool→gM,wpAny_Call_Name_kw→iH,getMethod→iK,sliceBounds→iL,standAt→jO,callWith→jY,letOwnedTupleGo→kd,PassesOwn→kD,assign→kO,call_meets→kP,Keyword→lz,wpAny_newObj_type→lA,swappedStores→lK,swapsWithSole→lL,wpAny_pyIter_zip→l6,codeAny→mz,wpAny_execs_nil→mK,Pos→mZ,Operator→nB,Scope→nD,cLine→ox,wpAny_standAt→oy,BindsTo→pJ,callerA→pK,codeAny_mono→pL,getItem→pM,seqIndex_neg→pN,slot_list_getitem→pO,tupleKind→qF,CmpOp→qP,seqIndex_of→qQ,subscripted→qR,setItem→rS,valueAt→rT,Code→sP,newFunctionEnv→sQ,evalPart_none→uA,wpAny_holding→uB,atKey→uS,bindC→uT,bindL→uU,Data→vU,concat_meets→vV,isTrue→vW,Sem→yJ,builtinsNs→Ag,typeIs_int→Ah,wpAny_Name→Ai
open PySem.Heap renaming get?_push_of_some→bE,lt_size→bR,get?_push_size→bX,size_push→dE,SameBut→eS,IsList→i6,get?_update_self→lP,get?_update_other→rO,IsSliceOf→yH
open PySem.W renaming Frag→bG,findIn→dD,kia_one→dL,emptyDict→eh,keepIn→ei,kitOne→eX,instObj→fC,specialIn→gx,callWith_K→gZ,methodCall_KW→iE,hasDictIn→kb,plainGet→kz,cellsFrom_some→kQ,fnOf→kR,lookIn→lM,plainGet_of→l9,mroIn→mq,kitx_list→mR,methodObj→mS,OpenLaw→nU,findCls→nV,makesIn→nW,readsIn→nX,takerIn→nY,takesIn→nZ,codeIn→oO,isFn→qG,callWith_K0→rV,kitx_dict→sX,plainOver→sY,handedIn→uC,WalkO→wH
namespace L2
open PySem PySem.Spec PyProof.Rows
noncomputable abbrev gN:=Sum Int Str
noncomputable def qK:gN->bC->Bool
 |.inl k,v=>bC.isInt k v
 |.inr x,v=>bC.isStrOf x v
noncomputable def Gx (w:cY):gN->Int
 |.inl k=>hashInt k
 |.inr x=>hashStr w x
theorem yh:∀{k:gN} {v:bC},qK k v=true->(∃i t,k=Sum.inl i/\v=bC.int i t)\/(∃x t,k=Sum.inr x/\v=bC.str x t)
 |.inl i,v,h=>by
  obtain⟨t,e⟩:=bC.isInt_shape (k:=i) (v:=v) h
  exact .inl ⟨i,t,rfl,e⟩
 |.inr x,v,h=>by
  obtain⟨t,e⟩:=bC.isStrOf_shape (x:=x) (v:=v) h
  exact .inr ⟨x,t,rfl,e⟩
theorem Py (i:Int)(t:Tok):qK (.inl i) (.int i t)=true:=by simp[qK,bC.isInt]
theorem Pz (x:Str)(t:Tok):qK (.inr x) (.str x t)=true:=by simp[qK,bC.isStrOf]
theorem S9 (a b:Int):decide ((Sum.inl a:gN)=Sum.inl b)=(a==b):=by
 by_cases e:a=b
 ·subst e;simp
 ·have h:¬(Sum.inl a:gN)=Sum.inl b:=λq=>e (Sum.inl.inj q)
  rw[decide_eq_false h]
  exact(beq_eq_false_iff_ne.mpr e).symm
theorem Ta (a b:Str):decide ((Sum.inr a:gN)=Sum.inr b)=decide (a=b):=by
 by_cases e:a=b
 ·subst e;simp
 ·have h:¬(Sum.inr a:gN)=Sum.inr b:=λq=>e (Sum.inr.inj q)
  rw[decide_eq_false h,decide_eq_false e]
theorem Tb (a:Int)(b:Str):decide ((Sum.inl a:gN)=Sum.inr b)=false:=decide_eq_false (λq=>nomatch q)
theorem Tc (a:Str)(b:Int):decide ((Sum.inr a:gN)=Sum.inl b)=false:=decide_eq_false (λq=>nomatch q)
noncomputable def gJ (prog:dA)(w:cY):PySem.KeyKind prog w gN where
 is:=qK
 hash:=Gx w
 inj:=λv a b ha hb=>by
  rcases yh ha with⟨i,t,rfl,rfl⟩|⟨x,t,rfl,rfl⟩
  ·rcases yh hb with⟨j,u,rfl,e⟩|⟨y,u,rfl,e⟩
   ·injection e with e1 _;rw[e1]
   ·exact nomatch e
  ·rcases yh hb with⟨j,u,rfl,e⟩|⟨y,u,rfl,e⟩
   ·exact nomatch e
   ·injection e with e1 _;rw[e1]
 byValue:=λk v h=>by
  rcases yh h with⟨i,t,rfl,rfl⟩|⟨x,t,rfl,rfl⟩<;>rfl
 pyHash:=λhv h=>by
  rcases yh hv with⟨i,t,rfl,rfl⟩|⟨x,t,rfl,rfl⟩
  ·exact wpAny_pyHash_int h
  ·exact wpAny_pyHash_str h
 eqBool:=λhu hv h=>by
  rcases yh hu with⟨i,t,rfl,rfl⟩|⟨x,t,rfl,rfl⟩
  ·rcases yh hv with⟨j,u,rfl,rfl⟩|⟨y,u,rfl,rfl⟩
   ·rw[S9]at h;exact wpAny_eqBool_int h
   ·rw[Tb]at h;exact SeqAt.EqAt.int_str i t y u _ _ _ _ h
  ·rcases yh hv with⟨j,u,rfl,rfl⟩|⟨y,u,rfl,rfl⟩
   ·rw[Tc]at h;exact SeqAt.EqAt.str_int x t j u _ _ _ _ h
   ·rw[Ta]at h;exact wpAny_eqBool_str h
 «strs»:=λk x t v h=>by
  rcases yh h with⟨i,u,rfl,e⟩|⟨y,u,rfl,e⟩
  ·exact nomatch e
  ·injection e with e1 _
   subst e1
   cases v<;>rfl
theorem OX (prog:dA)(w:cY)(i:Int)(t:Tok):(gJ prog w).is (.inl i) (.int i t)=true:=Py i t
theorem OY (prog:dA)(w:cY)(x:Str)(t:Tok):(gJ prog w).is (.inr x) (.str x t)=true:=Pz x t
inductive V where
 |non|bl (b:Bool)|int (i:Int)|str (x:Str)|byt (b:Array UInt8)|flt (b:UInt64)|ref (a:bI)|ty (n:String)
 deriving DecidableEq
noncomputable def RelV:V->bC->Prop
 |.non,u=>u=bC.none
 |.bl b,u=>u=bC.bool b
 |.int i,u=>∃t,u=bC.int i t
 |.str x,u=>∃t,u=bC.str x t
 |.byt b,u=>∃t,u=bC.bytes b t
 |.flt b,u=>∃t,u=bC.float b t
 |.ref a,u=>u=bC.ref a
 |.ty n,u=>u=bC.type n
noncomputable abbrev c8:List V->List bC->Prop:=Paired RelV
variable {us:List bC}{xs:List V}
theorem c8.length (r:c8 xs us):xs.length=us.length:=Paired.length r
theorem c8.get:∀{xs:List V} {us:List bC} {i:Nat} {x:V},c8 xs us->xs[i]?=some x->∃u,us[i]?=some u/\RelV x u
 |_,_,_,_,.nil,e=>by simp at e
 |_,_,0,_,.cons r _,e=>by simp at e;subst e;exact⟨_,rfl,r⟩
 |_,_,i+1,x,.cons _ t,e=>by
  obtain⟨u,h1,h2⟩:=c8.get (i:=i) (x:=x) t (by simpa using e)
  exact⟨u,by simpa using h1,h2⟩
variable {u:bC}
theorem c8.set {x:V}{u:bC}(r:RelV x u):∀{xs:List V} {us:List bC} (i:Nat),c8 xs us->c8 (xs.set i x) (us.set i u)
 |_,_,_,.nil=>.nil
 |_,_,0,.cons _ t=>.cons r t
 |_,_,i+1,.cons q t=>.cons q (c8.set r i t)
theorem c8.append:∀{xs ys:List V} {us ws:List bC},c8 xs us->c8 ys ws->c8 (xs++ys) (us++ws)
 |_,_,_,_,.nil,s=>s
 |_,_,_,_,.cons r t,s=>.cons r (c8.append t s)
theorem c8.take:∀{xs:List V} {us:List bC} (n:Nat),c8 xs us->c8 (xs.take n) (us.take n)
 |_,_,0,_=>.nil
 |_,_,_+1,.nil=>.nil
 |_,_,n+1,.cons r t=>.cons r (c8.take n t)
theorem c8.drop:∀{xs:List V} {us:List bC} (n:Nat),c8 xs us->c8 (xs.drop n) (us.drop n)
 |_,_,0,r=>r
 |_,_,_+1,.nil=>.nil
 |_,_,n+1,.cons _ t=>c8.drop n t
noncomputable def m5:Option V->Option bC->Prop
 |some v,some u=>RelV v u
 |none,none=>True
 |_,_=>False
variable {κ:Type}
noncomputable def KV:List (κ×V)->List (κ×bC)->Prop:=Paired λ(p:κ×V) (q:κ×bC)=>p.1=q.1/\RelV p.2 q.2
noncomputable def kV:gN->V
 |.inl i=>.int i
 |.inr x=>.str x
inductive HO where
 |lst (xs:List V)
 |tup (xs:List V)
 |dK (dS:List (gN×V))|dT (dS:List (List gN×V))
 |set (S:Int->Bool) (n:Nat)
 |ins (C dx:bI) (fs:List (Str×V))
 |own (x:bI)
 |xd (fs:List (Str×V))
 |met (f x:bI)
 |rng (lo hi:Int)
 |frz (o:gH) (u:HO)
 |tbl (ps:Array bC)
 |ext (φ:bU->Prop)
noncomputable abbrev Hp:=bI->Option HO
noncomputable def fM (H:Hp)(a:bI)(o:HO):Hp:=λb=>if b=a then some o else H b
variable {H:Hp}{a:bI}
theorem zw {o:HO}:fM H a o a=some o:=by unfold fM;rw[if_pos rfl]
variable {b:bI}
theorem zp {o:HO}(h:b≠a):fM H a o b=H b:=by unfold fM;rw[if_neg h]
theorem UC {o u:HO}(h:H a=some o)(h':H b=some u)(d:o≠u):a≠b:=by
 intro e;subst e;rw[h]at h';exact d (Option.some.inj h')
theorem zu {o:HO}(h:H a=some o)(h':H b=none):a≠b:=by
 intro e;subst e;rw[h]at h';cases h'
section
variable (P:dA)(w:cY)
noncomputable def fP (H:Hp)(h:bU)(a:bI):HO->Prop
  |.lst xs=>xs.length<=sizeLine/\∃(df:List bC) (n:Nat),c8 xs df/\h.get? a=some { cls:=.type "list",data:=.seq df.toArray n }
  |.tup xs=>xs.length<=sizeLine/\∃df:List bC,c8 xs df/\IsTup h a df.toArray
  |.dK dS=>dS.length<=sizeLine/\(a==fU)=false/\∃vs,KV dS vs/\h.DictOf (gJ P w) a vs
  |.dT dS=>dS.length<=sizeLine/\(a==fU)=false/\∃xs:List (List gN×bI×bC),
      Paired (λ(p:List gN×V) (q:List gN×bI×bC)=>p.1=q.1/\H q.2.1=some (.tup (p.1.map kV))/\RelV p.2 q.2.2) dS xs /\
      ∃o es ep,h.get? a=some o/\o.ExactDict/\o.data=.dict es ep/\es.toList=xs.map (entryOfKey (qF (gJ P w)))/\(xs.map (·.1)).Nodup
  |.set S n=>h.SetOf (intKind P w) a S n
  |.ins C dx fs=>H dx=some (.own a)/\fs.length<=1000/\dx≠a/\h.get? a=some (fC C dx) /\
      ∃mA,h.Ns1 dx mA/\(∀f,m5 (fs.lookup f) (mA f))/\PySem.Within mA (fs.map (·.1))
  |.own _=>∃o,h.get? a=some o
  |.xd fs=>∃mA,h.Ns1 a mA/\∀f,m5 (fs.lookup f) (mA f)
  |.rng lo hi=>∃t u v,h.get? a=some { cls:=.type "range",data:=.fields #[.int lo t,.int hi u,.int 1 v] }
  |.frz o u=>h.get? a=some o/\fP H h a u
  |.tbl ps=>h.get? a=some { cls:=.none,data:=.fields ps }
  |.met f x=>h.get? a=some (mS (.ref f) (.ref x))
  |.ext φ=>φ h/\(∃o,h.get? a=some o)/\∀h1 h2:bU,φ h1->(∀o,h1.get? a=some o->h2.get? a=some o)->φ h2
noncomputable def mU (H:Hp)(h:bU):Prop:=∀a o,H a=some o->fP P w H h a o
end
variable {α β:Type}{H':Hp}{P:dA}{h h':bU}
section
variable {w:cY}{o:HO}
theorem fP.lt (x:fP P w H h a o):a<h.objs.size:=by
 cases o with
 |lst xs=>obtain⟨_,_,_,_,e⟩:=x;exact bR e
 |tup xs=>obtain⟨_,_,_,p⟩:=x;exact p.lt
 |dK dS=>obtain⟨_,_,_,_,o,_,_,e,_⟩:=x;exact bR e
 |dT dS=>obtain⟨_,_,_,_,o,_,_,e,_⟩:=x;exact bR e
 |set S n=>obtain⟨o,_,_,_,e,_⟩:=x;exact bR e
 |ins C dx fs=>obtain⟨_,_,_,e,_⟩:=x;exact bR e
 |own y=>obtain⟨_,e⟩:=x;exact bR e
 |xd fs=>obtain⟨_,⟨_,_,_,e,_⟩,_⟩:=x;exact bR e
 |rng lo hi=>obtain⟨_,_,_,e⟩:=x;exact bR e
 |frz ob u=>obtain⟨e,_⟩:=x;exact bR e
 |tbl ps=>exact bR (show h.get? a=some _ from x)
 |met f y=>exact bR (show h.get? a=some _ from x)
 |ext φ=>obtain⟨_,⟨_,e⟩,_⟩:=x;exact bR e
theorem Paired.mapP {α β:Type}{F G:α->β->Prop}:∀{l₁:List α} {l₂:List β},Paired F l₁ l₂->(∀a b,F a b->G a b)->Paired G l₁ l₂
 |_,_,.nil,_=>.nil
 |_,_,.cons r t,f=>.cons (f _ _ r) (Paired.mapP t f)
theorem fP.stay (x:fP P w H h a o)(k:∀b u,(b=a\/H b=some (.own a))->h.get? b=some u->h'.get? b=some u)
    (ho:∀b,H b=some (.own a)->H' b=some (.own a)) (ht:∀b xs,H b=some (.tup xs)->H' b=some (.tup xs)):fP P w H' h' a o:=by
  induction o with
  |lst xs=>obtain⟨z,df,n,r,e⟩:=x;exact⟨z,df,n,r,k _ _ (.inl rfl) e⟩
  |tup xs=>obtain⟨z,df,r,ob,e,c⟩:=x;exact⟨z,df,r,ob,k _ _ (.inl rfl) e,c⟩
  |dK dS=>obtain⟨z,y,vs,r,ob,es,ep,e,c⟩:=x;exact⟨z,y,vs,r,ob,es,ep,k _ _ (.inl rfl) e,c⟩
  |dT dS=>
    obtain⟨z,y,xs,r,ob,es,ep,e,c⟩:=x
    exact⟨z,y,xs,Paired.mapP r λp q z=>⟨z.1,ht _ _ z.2.1,z.2.2⟩,ob,es,ep,k _ _ (.inl rfl) e,c⟩
  |set S n=>obtain⟨ob,es,ep,t,e,c⟩:=x;exact⟨ob,es,ep,t,k _ _ (.inl rfl) e,c⟩
  |ins C dx fs=>
    obtain⟨d,z,ne,e,mA,⟨od,es,ep,e2,c⟩,r⟩:=x
    exact⟨ho _ d,z,ne,k _ _ (.inl rfl) e,mA,⟨od,es,ep,k _ _ (.inr d) e2,c⟩,r⟩
  |own y=>obtain⟨ob,e⟩:=x;exact⟨ob,k _ _ (.inl rfl) e⟩
  |xd fs=>obtain⟨mA,⟨od,es,ep,e,c⟩,r⟩:=x;exact⟨mA,⟨od,es,ep,k _ _ (.inl rfl) e,c⟩,r⟩
  |rng lo hi=>obtain⟨t,u,v,e⟩:=x;exact⟨t,u,v,k _ _ (.inl rfl) e⟩
  |frz ob u ih=>obtain⟨e,q⟩:=x;exact⟨k _ _ (.inl rfl) e,ih q⟩
  |tbl ps=>
    have e:h.get? a=some { cls:=.none,data:=.fields ps }:=x
    show h'.get? a=some { cls:=.none,data:=.fields ps }
    exact k a _ (.inl rfl) e
  |met f y=>
    have e:h.get? a=some (mS (.ref f) (.ref y)):=x
    show h'.get? a=some (mS (.ref f) (.ref y))
    exact k a _ (.inl rfl) e
  |ext φ=>obtain⟨p,⟨o,e⟩,st⟩:=x;exact⟨st _ _ p λo q=>k _ _ (.inl rfl) q,⟨o,k _ _ (.inl rfl) e⟩,st⟩
theorem mU.lt (x:mU P w H h)(e:H a=some o):a<h.objs.size:=(x a o e).lt
theorem mU.fresh (x:mU P w H h)(e:h.objs.size<=a):H a=none:=by
 cases q:H a with
 |none=>rfl
 |some u=>exact absurd (cF (x.lt q) e) (gC _)
theorem mU.kept (x:mU P w H h)(k:∀b u,h.get? b=some u->h'.get? b=some u):mU P w H h':=λa o e=>
 (x a o e).stay (λb u _ q=>k b u q) (λ_ q=>q) λ_ _ q=>q
theorem mU.laid (x:mU P w H h)(k:∀b u,h.get? b=some u->h'.get? b=some u)(hp:h.objs.size<=a)(new:fP P w (fM H a o) h' a o):mU P w (fM H a o) h':=λb u e=>by
 have hn:=x.fresh hp
 by_cases hb:b=a
 ·subst hb;rw[zw]at e;cases e;exact new
 ·rw[zp hb]at e
  exact(x b u e).stay (λc v _ q=>k c v q) (λc q=>by rw[zp (zu q hn)];exact q) λc xs q=>by rw[zp (zu q hn)];exact q
end
noncomputable def Rd (H:Hp)(a:bI)(u:HO):Prop:=H a=some u\/∃o,H a=some (.frz o u)
theorem Rd.ok {w:cY}{u:HO}(r:Rd H a u)(x:mU P w H h):fP P w H h a u:=by
 rcases r with r|⟨o,r⟩
 ·exact x a u r
 ·obtain⟨_,q⟩:=x a _ r
  exact q
noncomputable def B7:Option HO->Prop
 |some (.lst _)=>True
 |some (.dK _)=>True
 |some (.dT _)=>True
 |some (.set _ _)=>True
 |some (.ins _ _ _)=>True
 |some (.ext _)=>True
 |_=>False
section
variable {w:cY}{x e:bI}{o':HO}
theorem mU.write (ok:mU P w H h)(mu:B7 (H x))(he:e=x\/H e=some (.own x))(k:∀b u,b≠e->h.get? b=some u->h'.get? b=some u)(BI:∃u,h'.get? e=some u)
  (new:fP P w (fM H x o') h' x o'):mU P w (fM H x o') h':=λb u q=>by
 have C5:∀c y,H c=some (.own y)->c≠x:=λc y r z=>by subst z;rw[r]at mu;exact mu
 have GG:∀c xs,H c=some (.tup xs)->c≠x:=λc xs r z=>by subst z;rw[r]at mu;exact mu
 by_cases hb:b=x
 ·subst hb;rw[zw]at q;cases q;exact new
 ·rw[zp hb]at q
  by_cases AT:b=e
  ·have q':H b=some (.own x):=by
    rcases he with z|z
    ·exact absurd (AT.trans z) hb
    ·rw[AT];exact z
   rw[q]at q';cases q'
   obtain⟨v,hv⟩:=BI
   exact⟨v,by rw[AT];exact hv⟩
  ·refine(ok b u q).stay (λc v hc r=>k c v ?_ r) (λc r=>by rw[zp (C5 c b r)];exact r) λc xs r=>by rw[zp (GG c xs r)];exact r
   rcases hc with rfl|hc
   ·exact AT
   ·rintro rfl
    rcases he with z|z
    ·exact C5 c b hc z
    ·rw[hc]at z;cases z;exact hb rfl
end
structure Un (fs ex:List bI)(H H':Hp)(h h':bU):Prop where
 keep:∀b o,h.get? b=some o->H b=none->b∉fs->b∉ex->h'.get? b=some o
 slot:∀b o,h.get? b=some o->H b=none->b∈fs->b∉ex->∃sl,h'.get? b=some { o with slots:=sl }
 free:∀b o,h.get? b=some o->H b=none->b∉ex->H' b=none
 there:∀b o,h.get? b=some o->b∉ex->∃o',h'.get? b=some o'
 tups:∀b xs,H b=some (.tup xs)->H' b=some (.tup xs)
 frzs:∀b o u,H b=some (.frz o u)->H' b=some (.frz o u)
 tbls:∀b ps,H b=some (.tbl ps)->∃more,H' b=some (.tbl (ps++more))
section
variable {fs BG ex Vs:List bI}{H1 H2:Hp}{h1 h2:bU}{x e:bI}{o:HO}
theorem Un.any (u:Un fs ex H H1 h h1){ob:gH}(q:h.get? b=some ob)(n:H b=none)(hx:b∉ex):∃sl,h1.get? b=some { ob with slots:=sl }:=by
 by_cases hb:b∈fs
 ·exact u.slot b ob q n hb hx
 ·exact⟨ob.slots,u.keep b ob q n hb hx⟩
theorem Un.kept (k:∀b u,h.get? b=some u->h'.get? b=some u):Un fs ex H H h h' :=
 ⟨λb ob q _ _ _=>k b ob q,λb ob q _ _ _=>⟨ob.slots,k b ob q⟩,λ_ _ _ n _=>n,λb ob q _=>⟨ob,k b ob q⟩,λ_ _ q=>q,λ_ _ _ q=>q,λ_ ps q=>⟨#[],by rw[q];simp⟩⟩
theorem Un.refl:Un fs ex H H h h:=Un.kept λ_ _ q=>q
theorem Un.laid (k:∀b u,h.get? b=some u->h'.get? b=some u)(hp:h.objs.size<=a)(hn:H a=none):Un fs ex H (fM H a o) h h' where
 keep:=λb u q _ _ _=>k b u q
 slot:=λb u q _ _ _=>⟨u.slots,k b u q⟩
 free:=λb u q n _=>by rw[zp (cy (cF (bR q) hp))];exact n
 there:=λb u q _=>⟨u,k b u q⟩
 tups:=λb xs q=>by rw[zp (zu q hn)];exact q
 frzs:=λb u xs q=>by rw[zp (zu q hn)];exact q
 tbls:=λb ps q=>⟨#[],by rw[zp (zu q hn),q];simp⟩
theorem Un.write (mu:B7 (H x))(he:e=x\/H e=some (.own x))(k:∀b u,b≠e->h.get? b=some u->h'.get? b=some u)(BI:∃u,h'.get? e=some u):Un fs ex H (fM H x o) h h':=by
 have hx:∀b,H b=none->b≠x:=λb n z=>by subst z;rw[n]at mu;exact mu
 have hb:∀b,H b=none->b≠e:=λb n z=>by
  subst z
  rcases he with r|r
  ·exact hx b n r
  ·rw[n]at r;cases r
 have hm:∀b u,H b=some u->¬B7 (some u)->b≠x:=λb u q nm z=>by subst z;rw[q]at mu;exact nm mu
 refine⟨λb u q n _ _=>k b u (hb b n) q,λb u q n _ _=>⟨u.slots,k b u (hb b n) q⟩,λb u q n _=>by rw[zp (hx b n)];exact n,λb u q _=>?_,
  λb xs q=>by rw[zp (hm b _ q λz=>z)];exact q,λb u xs q=>by rw[zp (hm b _ q λz=>z)];exact q,λb ps q=>⟨#[],by rw[zp (hm b _ q λz=>z),q];simp⟩⟩
 by_cases AT:b=e
 ·subst AT;exact BI
 ·exact⟨u,k b u AT q⟩
end
noncomputable def EC (h:bU)(H:Hp):List bI:=(cC h.objs.size).filter λa=>(H a).isSome
noncomputable def qV (h:bU)(H:Hp):bU:=PySem.W.hideAll h (EC h H)
theorem O7 (h:bU)(H:Hp):(qV h H).objs.size=h.objs.size:=PySem.W.hideAll_size _ _
theorem Qs {o:gH}(e:h.get? b=some o)(n:H b=none):(qV h H).get? b=some o :=
 PySem.W.hideAll_get _ e λhm=>by
  have q:(H b).isSome=true:=(d9.mp hm).2
  rw[n]at q;simp at q
theorem Re {o:gH}(e:(qV h H).get? b=some o):h.get? b=some o/\H b=none:=by
 have e':h.get? b=some o:=PySem.W.of_hideAll (EC h H) e
 refine⟨e',?_⟩
 cases q:H b with
 |none=>rfl
 |some x=>
  have hm:b∈EC h H:=d9.mpr ⟨di.mpr (bR e'),by simp[q]⟩
  have z:(qV h H).get? b=none:=PySem.W.hideAll_none (EC h H) hm
  rw[z]at e;cases e
noncomputable def yM (g h:bU)(L:bI):List (bI×gH):=(cC h.objs.size).filterMap λa=>if a=L\/(g.get? a).isSome=true then none else(h.get? a).map λo=>(a,o)
noncomputable def rest (g h:bU)(L d:bI):List (bI×gH):=(yM g h L).filter λp=>decide (p.1≠d)
structure Mod (K:bG)(mg:Str->Option bC)(base:bU):Prop where
 kin:K.In base
 glob:base.Ns dg mg
 blt:∃mb,base.Ns Ag mb/\∀x:Str,x≠"__name__"->mb x=dr x
 nolimit:base.NoLimit
structure Cx where
 prog:dA
 w:cY
 K:bG
 mg:Str->Option bC
 base:bU
 A:c7
 N:List Str
 s₀:bP
 H₀:Hp
 env:Env
 outer:List Env
 stack:List Env
 ex:List bI
 fn:Str->Bool
 calm:Bool
 pn:List (bI×gH)
 xe:bC->bP->Prop
noncomputable def wN (l:List Env):List bI:=l.filterMap (·.frame)
noncomputable abbrev Cx.fs (X:Cx):List bI:=wN X.outer
noncomputable def rY (sc:nD)(x:Str):Prop:=sc.names.lookup x=some .local\/sc.names.lookup x=some .cell\/sc.names.lookup x=some .free
noncomputable def Loc (sc:nD)(x:Str):Prop:=sc.names.lookup x=some .local\/sc.names.lookup x=some .cell
noncomputable def Look (env:Env)(h:bU)(m:Str->Option bC)(x:Str)(u:bC):Prop :=
 (env.kindOf x=some .local/\m x=some u)\/((env.kindOf x=some .cell\/env.kindOf x=some .free)/\∃c,env.cells.lookup x=some c/\h.IsCell c (some u))
structure Cx.Ok (X:Cx):Prop where
 mod:Mod X.K X.mg X.base
 kind:X.env.scope.kind=.function
 glob:X.env.globals=dg
 blt:X.env.builtins=Ag
 above:X.s₀.heap.objs.size<=X.env.locals
 inj:∀x y c,X.env.cells.lookup x=some c->X.env.cells.lookup y=some c->x=y
 has:∀x,(X.env.kindOf x=some .cell\/X.env.kindOf x=some .free)->∃c,X.env.cells.lookup x=some c
 cab:∀x c,X.fn x=true->X.env.cells.lookup x=some c->X.s₀.heap.objs.size<=c
 hd:X.calm=true->X.A.handled=none
 frames:X.A.frames=some X.stack
 stk:X.stack=X.outer\/(X.stack=X.env::X.outer/\X.env.frame=some X.env.locals)
 exf:∀b∈X.ex,b≠X.env.locals/\∀x c,X.env.cells.lookup x=some c->c≠b
 bs:∀b o,X.base.get? b=some o->X.s₀.heap.get? b=some o/\X.H₀ b=none
 bsz:X.base.objs.size<=X.s₀.heap.objs.size
 noex:∀b o,X.base.get? b=some o->b∉X.ex
 exfs:∀b∈X.ex,b∉X.fs
 funs:X.s₀.heap.FunFrames X.base X.outer
 frf:∀b∈X.fs,X.H₀ b=none
structure Inv (X:Cx)(bH:List (bI×gH))(σ:List (Option V))(H:Hp)(s:bP):Prop where
 ok:X.Ok
 os:s.os=X.s₀.os
 bare:AllBare s.gens
 base:Un X.fs X.ex X.H₀ H X.s₀.heap s.heap
 loc:∃m,s.heap.Ns X.env.locals m/\∀(i:Nat) (x:Str) (v:V),X.N[i]?=some x->σ[i]?=some (some v)->rY X.env.scope x->∃u,RelV v u/\Look X.env s.heap m x u
 cell:∀x c,X.env.cells.lookup x=some c->∃v,s.heap.IsCell c v
 free:H X.env.locals=none
 freeC:∀x c,X.env.cells.lookup x=some c->H c=none
 pin:∀p∈X.pn++bH,s.heap.get? p.1=some p.2/\H p.1=none/\p.1≠X.env.locals/\p.1∉X.fs/\∀v,p.2.data≠.cell v
 hok:mU X.prog X.w H s.heap
 len:σ.length=X.N.length
variable {E:bC->bP->Prop}{M:Model}{X:Cx}{ch:List bI}{i j t':Nat}{it:bI}{bH:List (bI×gH)}{s s':bP}{v:V}{x:Str}
section
variable {σ:List (Option V)}
theorem Cx.Ok.nofr (ok:X.Ok){o:gH}(e:X.base.get? b=some o):b∉X.fs:=λhb=>by
 have:=(ok.funs.mem hb).1
 rw[e]at this;cases this
theorem Inv.bs (I:Inv X bH σ H s):∀b o,X.base.get? b=some o->s.heap.get? b=some o/\H b=none:=λb o e=>
 ⟨I.base.keep b o (I.ok.bs b o e).1 (I.ok.bs b o e).2 (I.ok.nofr e) (I.ok.noex b o e),I.base.free b o (I.ok.bs b o e).1 (I.ok.bs b o e).2 (I.ok.noex b o e)⟩
theorem Inv.bk (I:Inv X bH σ H s):∀b o,X.base.get? b=some o->s.heap.get? b=some o:=λb o e=>(I.bs b o e).1
theorem Inv.mod (I:Inv X bH σ H s):Mod X.K X.mg X.base:=I.ok.mod
theorem Inv.kIn (I:Inv X bH σ H s):X.K.In s.heap:=I.ok.mod.kin.keeps I.bk
theorem Inv.fr (I:Inv X bH σ H s):∃m,Fr X.base X.env.locals s.heap m :=
 let⟨m,hn,_⟩:=I.loc
 ⟨m,hn,I.bk,dC I.ok.bsz I.ok.above⟩
theorem Inv.lt (I:Inv X bH σ H s):X.env.locals<s.heap.objs.size:=let⟨_,hn,_⟩:=I.loc;hn.lt
theorem Inv.sz (I:Inv X bH σ H s):X.s₀.heap.objs.size<=s.heap.objs.size:=dC I.ok.above (nQ I.lt)
theorem Inv.nofs (I:Inv X bH σ H s)(h:s.heap.objs.size<=a):a∉X.fs:=λhb=>by
 obtain⟨_,o,ho,_⟩:=I.ok.funs.mem hb
 exact absurd (cF (bR ho) (dC I.sz h)) (gC _)
theorem Inv.cne (I:Inv X bH σ H s):∀x c,X.env.cells.lookup x=some c->c≠X.env.locals:=λx c e z=>by
 obtain⟨v,o,ho,hd⟩:=I.cell x c e
 obtain⟨m,⟨o',es,ep,AY,FO,_⟩,_⟩:=I.loc
 rw[z,AY]at ho;cases ho;rw[FO]at hd;cases hd
theorem Inv.funs (I:Inv X bH σ H s):s.heap.FunFrames X.base X.outer:=by
 have all:∀(l:List Env),(∀b∈wN l,b∈X.fs)->X.s₀.heap.FunFrames X.base l->s.heap.FunFrames X.base l:=by
  intro l
  induction l with
  |nil=>intro _ _;trivial
  |cons env r ih=>
   intro hs hl
   obtain⟨hk,⟨L,o,hf,hn,ho,hd⟩,hr⟩:=hl
   have hL:L∈X.fs:=hs L (by unfold wN;rw[jL,hf];exact bF)
   obtain⟨sl,e⟩:=I.base.slot L o ho (I.ok.frf L hL) hL λz=>I.ok.exfs L z hL
   exact⟨hk,⟨L,_,hf,hn,e,hd⟩,ih (λb hb=>hs b (by unfold wN;rw[jL,hf];exact bJ _ hb)) hr⟩
 exact all X.outer (λ_ hb=>hb) I.ok.funs
theorem Inv.stack (I:Inv X bH σ H s):s.heap.FunFrames X.base X.stack:=by
 rcases I.ok.stk with e|⟨e,hf⟩
 ·rw[e];exact I.funs
 ·rw[e]
  obtain⟨m,hn,_⟩:=I.loc
  refine .cons (by rw[I.ok.kind];decide) hf hn ?_ I.funs
  exact bU.get?_none_of_le (dC I.ok.bsz I.ok.above)
theorem Inv.stkSub (I:Inv X bH σ H s):∀b∈wN X.stack,b∈X.env.locals::X.fs:=λb hb=>by
 rcases I.ok.stk with e|⟨e,hf⟩
 ·rw[e]at hb;exact bJ _ hb
 ·rw[e]at hb
  unfold wN at hb
  rw[jL,hf]at hb
  exact hb
theorem Inv.stkFree (I:Inv X bH σ H s):∀b∈wN X.stack,H b=none:=λb hb=>by
 rcases bL.mp (I.stkSub b hb)with e|hb
 ·rw[e];exact I.free
 ·obtain⟨_,o,ho,_⟩:=I.ok.funs.mem hb
  exact I.base.free b o ho (I.ok.frf b hb) λz=>I.ok.exfs b z hb
theorem Inv.step {g':Array GenState}{d':Drawn}(I:Inv X bH σ H s)
  (oS:∀b∈ch,(b∈X.ex\/X.s₀.heap.objs.size<=b)/\b≠X.env.locals/\(∀x c,X.env.cells.lookup x=some c->c≠b)/\∀p∈X.pn++bH,p.1≠b)
  (keep:∀b o,b≠X.env.locals->b∉X.fs->b∉ch->s.heap.get? b=some o->H b=none->h'.get? b=some o)
  (slot:∀b o,b≠X.env.locals->b∈X.fs->b∉ch->s.heap.get? b=some o->H b=none->∃sl,h'.get? b=some { o with slots:=sl }) (free:∀b o,b∉ch->s.heap.get? b=some o->H b=none->H' b=none)
  (there:∀b o,b∉ch->s.heap.get? b=some o->∃o',h'.get? b=some o')
  (tups:∀b xs,H b=some (.tup xs)->H' b=some (.tup xs)) (frzs:∀b o u,H b=some (.frz o u)->H' b=some (.frz o u)) (tbls:∀b ps,H b=some (.tbl ps)->∃more,H' b=some (.tbl (ps++more)))
  (ns:∀m,s.heap.Ns X.env.locals m->h'.Ns X.env.locals m) (hok:mU X.prog X.w H' h') (hg:AllBare g') :
  Inv X bH σ H' { s with heap:=h',gens:=g',drawn:=d',toks:=t' }:=by
 have Jm:∀b o,X.s₀.heap.get? b=some o->b≠X.env.locals:=λb o e=>cy (cF (bR e) I.ok.above)
 have Ej:∀b o,X.s₀.heap.get? b=some o->b∉X.ex->b∉ch:=λb o e hx hb=>by
  rcases(oS b hb).1 with z|z
  ·exact hx z
  ·exact absurd (cF (bR e) z) (gC _)
 have cellK:∀x c,X.env.cells.lookup x=some c->∀v,s.heap.IsCell c v->h'.IsCell c v:=λx c e v ⟨o,ho,hd⟩=>by
  have C2:c∉ch:=λz=>(oS c z).2.2.1 x c e rfl
  by_cases hc:c∈X.fs
  ·obtain⟨sl,q⟩:=slot c o (I.cne x c e) hc C2 ho (I.freeC x c e)
   exact⟨_,q,hd⟩
  ·exact⟨o,keep c o (I.cne x c e) hc C2 ho (I.freeC x c e),hd⟩
 refine⟨I.ok,I.os,hg,⟨λb o e n hb hx=>?_,λb o e n hb hx=>?_,λb o e n hx=>?_,λb o e hx=>?_,λb xs e=>tups b xs (I.base.tups b xs e),λb o xs e=>frzs b o xs (I.base.frzs b o xs e),λb ps e=>?_⟩,?_,λx c e=>?_,?_,λx c e=>?_,λp hp=>?_,hok,I.len⟩
 ·exact keep b o (Jm b o e) hb (Ej b o e hx) (I.base.keep b o e n hb hx) (I.base.free b o e n hx)
 ·obtain⟨sl,e1⟩:=I.base.slot b o e n hb hx
  obtain⟨Oa,e2⟩:=slot b _ (Jm b o e) hb (Ej b o e hx) e1 (I.base.free b o e n hx)
  exact⟨Oa,e2⟩
 ·obtain⟨o',e1⟩:=I.base.there b o e hx
  exact free b o' (Ej b o e hx) e1 (I.base.free b o e n hx)
 ·obtain⟨o',e1⟩:=I.base.there b o e hx
  exact there b o' (Ej b o e hx) e1
 ·obtain⟨m1,e1⟩:=I.base.tbls b ps e
  obtain⟨m2,e2⟩:=tbls b _ e1
  exact⟨m1++m2,by rw[e2,tZ]⟩
 ·obtain⟨m,hn,hl⟩:=I.loc
  refine⟨m,ns m hn,λi x v e1 e2 e3=>?_⟩
  obtain⟨u,r,l⟩:=hl i x v e1 e2 e3
  refine⟨u,r,?_⟩
  rcases l with l|⟨k,c,e,z⟩
  ·exact .inl l
  ·exact .inr ⟨k,c,e,cellK x c e _ z⟩
 ·obtain⟨v,z⟩:=I.cell x c e
  exact⟨v,cellK x c e v z⟩
 ·obtain⟨m,⟨o,_,_,ho,_⟩,_⟩:=I.loc
  exact free _ o (λz=>(oS _ z).2.1 rfl) ho I.free
 ·obtain⟨v,o,ho,hd⟩:=I.cell x c e
  exact free c o (λz=>(oS c z).2.2.1 x c e rfl) ho (I.freeC x c e)
 ·obtain⟨e,n,ne,nf,d⟩:=I.pin p hp
  have C2:p.1∉ch:=λz=>(oS p.1 z).2.2.2 p hp rfl
  exact⟨keep p.1 p.2 ne nf C2 e n,free p.1 p.2 C2 e n,ne,nf,d⟩
theorem Inv.un (I:Inv X bH σ H s)(u:Un X.fs [] H H' s.heap h')(hok:mU X.prog X.w H' h'):Inv X bH σ H' { s with heap:=h',toks:=t' }:=by
 obtain⟨m,⟨o,es,ep,ho,r⟩,_⟩:=id I.loc
 obtain⟨sl,hL⟩:=u.any ho I.free (by simp)
 exact I.step (g':=s.gens) (d':=s.drawn) (ch:=[]) (λ_ z=>nomatch z) (λb o _ hb _ e n=>u.keep b o e n hb (by simp)) (λb o _ hb _ e n=>u.slot b o e n hb (by simp)) (λb o _ e n=>u.free b o e n (by simp)) (λb o _ e=>u.there b o e (by simp)) u.tups u.frzs u.tbls (λm' hm=>by
  obtain⟨o',yN,Fw,AY,r'⟩:=hm
  rw[ho]at AY;cases AY
  exact⟨_,yN,Fw,hL,r'⟩) hok I.bare
theorem Inv.call {g':Array GenState}{d':Drawn}(I:Inv X bH σ H s)(u:Un (wN X.stack) ch H H' s.heap h')(hok:mU X.prog X.w H' h')(hg:AllBare g')
  (oS:∀b∈ch,(b∈X.ex\/X.s₀.heap.objs.size<=b)/\b≠X.env.locals/\(∀x c,X.env.cells.lookup x=some c->c≠b)/\∀p∈X.pn++bH,p.1≠b) :
  Inv X bH σ H' { s with heap:=h',gens:=g',drawn:=d',toks:=t' }:=by
 obtain⟨m,⟨o,es,ep,ho,r⟩,_⟩:=id I.loc
 obtain⟨sl,hL⟩:=u.any ho I.free λz=>(oS _ z).2.1 rfl
 exact I.step (ch:=ch) oS (λb o hL hb hc e n=>u.keep b o e n (λz=>(bL.mp (I.stkSub b z)).elim hL hb) hc) (λb o _ _ hc e n=>u.any e n hc) (λb o hc e n=>u.free b o e n hc) (λb o hc e=>u.there b o e hc) u.tups u.frzs u.tbls (λm' hm=>by
  obtain⟨o',yN,Fw,AY,r'⟩:=hm
  rw[ho]at AY;cases AY
  exact⟨_,yN,Fw,hL,r'⟩) hok hg
theorem Inv.turned (I:Inv X bH σ H s)(k:∀b o,b≠it->s.heap.get? b=some o->h'.get? b=some o)(hn:H it=none)(hL:it≠X.env.locals)
  (h1:it∈X.ex\/X.s₀.heap.objs.size<=it) (h2:∀x c,X.env.cells.lookup x=some c->c≠it) (h3:∀p∈X.pn++bH,p.1≠it):Inv X bH σ H { s with heap:=h',toks:=t' }:=by
 have Jn:∀b u,H b=some u->b≠it:=λb u e z=>by rw[z,hn]at e;cases e
 refine I.step (g':=s.gens) (d':=s.drawn) (ch:=[it]) (λb hb=>?_) (λb o _ _ hc e _=>k b o (λz=>hc (by simp[z])) e) (λb o _ _ hc e _=>⟨o.slots,k b o (λz=>hc (by simp[z])) e⟩) (λ_ _ _ _ n=>n)
  (λb o hc e=>⟨o,k b o (λz=>hc (by simp[z])) e⟩) (λ_ _ e=>e) (λ_ _ _ e=>e) (λb ps e=>⟨#[],by rw[e];simp⟩) (λm hm=>?_) (λb u e=>?_) I.bare
 ·have e:b=it:=by simpa using hb
  subst e
  exact⟨h1,hL,h2,h3⟩
 ·obtain⟨o,es,ep,ho,r⟩:=hm
  exact⟨o,es,ep,k _ o (Ne.symm hL) ho,r⟩
 ·refine(I.hok b u e).stay (λc v hc q=>k c v ?_ q) (λ_ q=>q) λ_ _ q=>q
  rcases hc with z|z
  ·rw[z];exact Jn b u e
  ·exact Jn c _ z
theorem Inv.tok (I:Inv X bH σ H s)(t:Nat):Inv X bH σ H { s with toks:=t }:=I.un (h':=s.heap) (t':=t) Un.refl I.hok
theorem Inv.kept (I:Inv X bH σ H s)(k:∀b u,s.heap.get? b=some u->h'.get? b=some u):Inv X bH σ H { s with heap:=h',toks:=t' }:=I.un (Un.kept k) (I.hok.kept k)
theorem Inv.laid {o:HO}(I:Inv X bH σ H s)(k:∀b u,s.heap.get? b=some u->h'.get? b=some u)(hp:s.heap.objs.size<=a)(new:fP X.prog X.w (fM H a o) h' a o) :
  Inv X bH σ (fM H a o) { s with heap:=h',toks:=t' }:=I.un (Un.laid k hp (I.hok.fresh hp)) (I.hok.laid k hp new)
theorem Inv.write {x e:bI}{o:HO}(I:Inv X bH σ H s)(mu:B7 (H x))(he:e=x\/H e=some (.own x))(k:∀b u,b≠e->s.heap.get? b=some u->h'.get? b=some u)(BI:∃u,h'.get? e=some u)
  (new:fP X.prog X.w (fM H x o) h' x o):Inv X bH σ (fM H x o) { s with heap:=h',toks:=t' }:=I.un (Un.write mu he k BI) (I.hok.write mu he k BI new)
theorem Inv.weak {σ':List (Option V)}(I:Inv X bH σ H s)(hl:σ'.length = σ.length)(w:∀(i:Nat) v,σ'[i]?=some (some v)->σ[i]?=some (some v)):Inv X bH σ' H s :=
 ⟨I.ok,I.os,I.bare,I.base,let⟨m,hn,qW⟩:=I.loc;⟨m,hn,λi x v e1 e2 e3=>qW i x v e1 (w i v e2) e3⟩,I.cell,I.free,I.freeC,I.pin,I.hok,hl.trans I.len⟩
theorem Inv.pins_of {AE:List (bI×gH)}(I:Inv X bH σ H s)(h:∀p∈AE,s.heap.get? p.1=some p.2/\H p.1=none/\p.1≠X.env.locals/\p.1∉X.fs/\∀v,p.2.data≠.cell v):Inv X AE σ H s :=
 ⟨I.ok,I.os,I.bare,I.base,I.loc,I.cell,I.free,I.freeC,λp hp=>(cL.mp hp).elim (λz=>I.pin p (cG _ z)) (h p),I.hok,I.len⟩
theorem Kq {N:List Str}(hN:N.Nodup)(a:N[i]?=some x)(b:N[j]?=some x):i=j:=by
 obtain⟨h1,e1⟩:=cB.mp a
 obtain⟨h2,e2⟩:=cB.mp b
 exact(kT hN).mp (e1.trans e2.symm)
theorem JR {A:c7}{Q:Unit->bP->Prop}(I:Inv X bH σ H s)(hN:X.N.Nodup)(hi:X.N[i]?=some x)(hx:Loc X.env.scope x)(r:RelV v u)
  (h:∀s',Inv X bH (σ.set i (some v)) H s'->(∃a,eS a s.heap s'.heap/\(a=X.env.locals\/X.env.cells.lookup x=some a))->Q () s') (hf:X.fn x=true\/X.env.scope.names.lookup x=some .local:=by first|exact .inl rfl|exact .inr rfl|assumption):ce M A (storeName X.env x u) Q E s:=by
 obtain⟨m,hn,hl⟩:=id I.loc
 have FL:(X.env.scope.kind==.class || (X.env.scope.kind==.module&&X.env.locals != X.env.globals))=false:=by rw[I.ok.kind];rfl
 have IR:i < σ.length:=by rw[I.len];exact(cB.mp hi).1
 have cne:=I.cne
 have tracked:∀{a:bI} {h':bU},(∃o,s.heap.get? a=some o/\H a=none)->eS a s.heap h'->mU X.prog X.w H h':=λ{a h'} ha hs b ob e=>by
  obtain⟨_,_,Aw⟩:=ha
  refine(I.hok b ob e).stay (λc w' hc q=>(hs.2 c ?_).trans q) (λ_ q=>q) λ_ _ q=>q
  rintro rfl
  rcases hc with rfl|hc
  ·rw[Aw]at e;cases e
  ·rw[Aw]at hc;cases hc
 rcases hx with hk|hk
 ·refine wpAny_storeName_local hk hn (λh' rJ hs=>?_) FL
  obtain⟨oL,_,_,ND,_⟩:=id hn
  refine h _ ⟨I.ok,I.os,I.bare,⟨λb o e n hb hx=>?_,λb o e n hb hx=>?_,I.base.free,λb o e hx=>?_,I.base.tups,I.base.frzs,I.base.tbls⟩,⟨_,rJ,λj y v' e1 e2 e3=>?_⟩,λy c e=>?_,I.free,I.freeC,λp hp=>?_,tracked ⟨oL,ND,I.free⟩ hs,by simpa using I.len⟩ ⟨_,hs,.inl rfl⟩
  ·exact(hs.2 b (cy (cF (bR e) I.ok.above))).trans (I.base.keep b o e n hb hx)
  ·obtain⟨sl,e1⟩:=I.base.slot b o e n hb hx
   exact⟨sl,(hs.2 b (cy (cF (bR e) I.ok.above))).trans e1⟩
  ·obtain⟨o',e1⟩:=I.base.there b o e hx
   exact⟨o',(hs.2 b (cy (cF (bR e) I.ok.above))).trans e1⟩
  ·by_cases hj:j=i
   ·subst hj
    rw[hi]at e1;cases e1
    rw[lx IR]at e2
    cases e2
    exact⟨u,r,.inl ⟨hk,by simp⟩⟩
   ·rw[i8 (Ne.symm hj)]at e2
    obtain⟨u',r',q⟩:=hl j y v' e1 e2 e3
    refine⟨u',r',?_⟩
    rcases q with⟨k,e⟩|⟨k,c,e,z⟩
    ·refine .inl ⟨k,?_⟩
     have:y≠x:=λe=>hj (Kq hN e1 (e▸hi))
     simp[this,e]
    ·exact .inr ⟨k,c,e,z.sameBut hs (cne y c e)⟩
  ·obtain⟨w',z⟩:=I.cell y c e
   exact⟨w',z.sameBut hs (cne y c e)⟩
  ·obtain⟨e,n,ne,nf,d⟩:=I.pin p hp
   exact⟨(hs.2 p.1 ne).trans e,n,ne,nf,d⟩
 ·have BJ:X.fn x=true:=by
   rcases hf with z|z
   ·exact z
   ·rw[z]at hk;cases hk
  obtain⟨c,hc⟩:=I.ok.has x (.inl hk)
  obtain⟨w',z⟩:=I.cell x c hc
  refine wpAny_storeName_cell I.ok.kind hk hc z (λh' Av hs=>?_)
  obtain⟨oc,IW,Gd⟩:=id z
  refine h { s with heap:=h' } ⟨I.ok,I.os,I.bare,⟨λb o e n hb hx=>?_,λb o e n hb hx=>?_,I.base.free,λb o e hx=>?_,I.base.tups,I.base.frzs,I.base.tbls⟩,⟨m,hn.sameBut hs (Ne.symm (cne x c hc)),λj y v' e1 e2 e3=>?_⟩,λy c' e=>?_,I.free,I.freeC,λp hp=>?_,tracked ⟨oc,IW,I.freeC x c hc⟩ hs,by simpa using I.len⟩ ⟨c,hs,.inr hc⟩
  ·exact(hs.2 b (cy (cF (bR e) (I.ok.cab x c BJ hc)))).trans (I.base.keep b o e n hb hx)
  ·obtain⟨sl,e1⟩:=I.base.slot b o e n hb hx
   exact⟨sl,(hs.2 b (cy (cF (bR e) (I.ok.cab x c BJ hc)))).trans e1⟩
  ·obtain⟨o',e1⟩:=I.base.there b o e hx
   exact⟨o',(hs.2 b (cy (cF (bR e) (I.ok.cab x c BJ hc)))).trans e1⟩
  ·by_cases hj:j=i
   ·subst hj
    rw[hi]at e1;cases e1
    rw[lx IR]at e2
    cases e2
    exact⟨u,r,.inr ⟨.inl hk,c,hc,Av⟩⟩
   ·rw[i8 (Ne.symm hj)]at e2
    obtain⟨u',r',q⟩:=hl j y v' e1 e2 e3
    refine⟨u',r',?_⟩
    rcases q with q|⟨k,c',e,z'⟩
    ·exact .inl q
    ·refine .inr ⟨k,c',e,z'.sameBut hs ?_⟩
     rintro rfl
     exact hj (Kq hN e1 (I.ok.inj _ _ _ e hc▸hi))
  ·by_cases IN:c'=c
   ·subst IN;exact⟨_,Av⟩
   ·obtain⟨w2,z2⟩:=I.cell y c' e
    exact⟨w2,z2.sameBut hs IN⟩
  ·obtain⟨e,n,ne,nf,d⟩:=I.pin p hp
   refine⟨(hs.2 p.1 ?_).trans e,n,ne,nf,d⟩
   intro q
   rw[q,IW]at e
   have q':oc=p.2:=Option.some.inj e
   exact d w' (by rw[←q'];exact Gd)
theorem ue {A:c7}{Q:Unit->bP->Prop}(I:Inv X bH σ H s)(hN:X.N.Nodup)(hi:X.N[i]?=some x)(hx:Loc X.env.scope x)(r:RelV v u)
  (h:∀s',Inv X bH (σ.set i (some v)) H s'->Q () s') (hf:X.fn x=true\/X.env.scope.names.lookup x=some .local:=by first|exact .inl rfl|exact .inr rfl|assumption):ce M A (storeName X.env x u) Q E s :=
 JR I hN hi hx r (λs' I' _=>h s' I') hf
theorem Inv.call' (I:Inv X bH σ H s)(ho:s'.os=s.os)(u:Un (wN X.stack) ch H H' s.heap s'.heap)(hok:mU X.prog X.w H' s'.heap)(hg:AllBare s'.gens)
  (oS:∀b∈ch,(b∈X.ex\/X.s₀.heap.objs.size<=b)/\b≠X.env.locals/\(∀x c,X.env.cells.lookup x=some c->c≠b)/\∀p∈X.pn++bH,p.1≠b):Inv X bH σ H' s':=by
 obtain⟨h',g',d',t',o'⟩:=s'
 have e:o'=s.os:=ho
 subst e
 exact I.call (g':=g') (t':=t') (d':=d') u hok hg oS
end
noncomputable abbrev XK:=bC->Option bI->Hp->Prop
noncomputable abbrev St:=List (Option V)
noncomputable abbrev VK:=V->Hp->Prop
noncomputable abbrev TE:=St->Hp->VK->Prop
noncomputable abbrev TT:=St->Hp->(Bool->Hp->Prop)->Prop
noncomputable abbrev TA:=St->Hp->(List V->Hp->Prop)->Prop
structure nG where
 nx:St->Hp->Prop
 rt:VK
 bk:St->Hp->Prop:=λ_ _=>False
 ct:St->Hp->Prop:=λ_ _=>False
noncomputable abbrev TS:=nG->St->Hp->Prop
noncomputable def EP (X:Cx)(bH:List (bI×gH))(σ:St)(Q:VK)(u:bC)(s':bP):Prop:=∃v H',Inv X bH σ H' s'/\RelV v u/\Q v H'
noncomputable def TP (X:Cx)(bH:List (bI×gH))(σ:St)(Q:Bool->Hp->Prop)(b:Bool)(s':bP):Prop:=∃H',Inv X bH σ H' s'/\Q b H'
noncomputable def AP (X:Cx)(bH:List (bI×gH))(σ:St)(Q:List V->Hp->Prop)(us:List bC)(s':bP):Prop:=∃vs H',Inv X bH σ H' s'/\c8 vs us/\Q vs H'
noncomputable def SP (X:Cx)(bH:List (bI×gH))(D:nG)(f:Flow)(s':bP):Prop :=
 match f with
 |.next=>∃σ' H',Inv X bH σ' H' s'/\D.nx σ' H'
 |.brk=>∃σ' H',Inv X bH σ' H' s'/\D.bk σ' H'
 |.cont=>∃σ' H',Inv X bH σ' H' s'/\D.ct σ' H'
 |.ret u=>∃v σ' H',Inv X bH σ' H' s'/\RelV v u/\D.rt v H'
noncomputable def PE (X:Cx)(e:Expr)(t:TE):Prop :=
 ∀(bH:List (bI×gH)) (s:bP) (σ:St) (H:Hp) (Q:VK),Inv X bH σ H s->t σ H Q->ce (cr X.prog X.w) X.A (cO e X.env) (EP X bH σ Q) X.xe s
noncomputable def PT (X:Cx)(e:Expr)(t:TT):Prop :=
 ∀(bH:List (bI×gH)) (s:bP) (σ:St) (H:Hp) (Q:Bool->Hp->Prop),Inv X bH σ H s->t σ H Q->ce (cr X.prog X.w) X.A (vW e X.env (cO e X.env)) (TP X bH σ Q) X.xe s
noncomputable def PW (X:Cx)(e:Expr)(t:TT):Prop :=
 ∀(whole:yJ bC) (bH:List (bI×gH)) (s:bP) (σ:St) (H:Hp) (Q:Bool->Hp->Prop),Inv X bH σ H s->t σ H Q->ce (cr X.prog X.w) X.A (vW e X.env whole) (TP X bH σ Q) X.xe s
variable {e:Expr}
theorem PW.pt {t:TT}(h:PW X e t):PT X e t:=h _
noncomputable def PA (X:Cx)(es:List Expr)(t:TA):Prop :=
 ∀(pos:mZ) (bH:List (bI×gH)) (s:bP) (σ:St) (H:Hp) (Q:List V->Hp->Prop),Inv X bH σ H s->t σ H Q->ce (cr X.prog X.w) X.A (spliced (dq pos (bK es X.env))) (AP X bH σ Q) X.xe s
noncomputable def PS (X:Cx)(st:dH)(t:TS):Prop :=
 ∀(bH:List (bI×gH)) (s:bP) (σ:St) (H:Hp) (D:nG),Inv X bH σ H s->t D σ H->ce (cr X.prog X.w) X.A (exec st X.env) (SP X bH D) X.xe s
noncomputable def tD (X:Cx)(st:List dH)(t:TS):Prop :=
 ∀(bH:List (bI×gH)) (s:bP) (σ:St) (H:Hp) (D:nG),Inv X bH σ H s->t D σ H->ce (cr X.prog X.w) X.A (execs st X.env) (SP X bH D) X.xe s
theorem eL {t:yJ α}{Q Q':α->bP->Prop}{A:c7}(h:ce M A t Q E s)(hQ:∀a s,Q a s->Q' a s):ce M A t Q' E s:=eW h hQ λ_ _ x=>x
variable {Q:bC->bP->Prop}{c:Expr}{op:qP}{pos:mZ}{ta tb:TE}{σ:St}
section
theorem bin {a b:Expr}(ha:PE X a ta)(hb:PE X b tb){R:V->V->Hp->Prop}(I:Inv X bH σ H s)(h:ta σ H λx H1=>tb σ H1 λy H2=>R x y H2)
 {Q:α->bP->Prop} {f:bC->bC->yJ α}
    (hf:∀v u s2 x y H2,Inv X bH σ H2 s2->RelV x v->RelV y u->R x y H2->ce (cr X.prog X.w) X.A (f v u) Q X.xe s2) :
    ce (cr X.prog X.w) X.A (cO a X.env) (λv s₁=>ce (cr X.prog X.w) X.A (cO b X.env) (λu s₂=>ce (cr X.prog X.w) X.A (f v u) Q X.xe s₂) X.xe s₁) X.xe s:=by
  refine eL (ha bH s σ H _ I h) λv s1 fk=>?_
  obtain⟨x,H1,I1,r1,q1⟩:=fk
  refine eL (hb bH s1 σ H1 _ I1 q1) λu s2 fk=>?_
  obtain⟨y,H2,I2,r2,q2⟩:=fk
  exact hf v u s2 x y H2 I2 r1 r2 q2
noncomputable def Hb (i:Nat):TE:=λσ H Q=>∃v,σ[i]?=some (some v)/\Q v H
noncomputable def tC (v:V):TE:=λ_ H Q=>Q v H
theorem wj (hN:X.N[i]?=some x)(hv:rY X.env.scope x)(hd:(x==("__debug__":Str))=false:=by decide)(kJ:(x==("__classdict__":Str))=false:=by decide):PE X (.Name x pos) (Hb i):=by
 intro bH s σ H Q I h
 obtain⟨v,e,h⟩:=h
 obtain⟨m,hn,hl⟩:=I.loc
 obtain⟨u,r,l⟩:=hl i x v hN e hv
 have fin:EP X bH σ Q u s:=⟨v,H,I,r,h⟩
 rcases l with⟨hk,hm⟩|⟨hk,c,hc,uH⟩
 ·exact Ai (wpAny_loadName_local I.ok.kind hk hn hm fin) hd
 ·rcases hk with hk|hk
  ·exact Ai (wpAny_loadName_cell I.ok.kind hk hc uH fin) hd
  ·exact Ai (wpAny_loadName_free I.ok.kind hk hc uH fin kJ) hd
theorem Td {i j pos}:PE X (.Constant (.int i) j pos) (tC (.int i)):=λ_ _ _ H _ I h=>wpAny_Constant_int ⟨.int i,H,I.tok _,⟨_,rfl⟩,h⟩
theorem UD {b j pos}:PE X (.Constant (.bool b) j pos) (tC (.bl b)):=λ_ _ _ H _ I h=>Constant_bool ⟨.bl b,H,I,rfl,h⟩
theorem Te {j pos}:PE X (.Constant .none j pos) (tC .non):=λ_ _ _ H _ I h=>Constant_none ⟨.non,H,I,rfl,h⟩
theorem Tf {x j pos}:PE X (.Constant (.str x) j pos) (tC (.str x)):=λ_ _ _ H _ I h=>Calls.Constant_str ⟨.str x,H,I.tok _,⟨_,rfl⟩,h⟩
noncomputable def Gl (X:Cx)(x:Str):Prop:=X.env.kindOf x=some .globalImplicit
theorem wo (I:Inv X bH σ H s)(hg:Gl X x)(hm:X.mg x=some u)(h:Q u s)
  (hd:(x==("__debug__":Str))=false:=by decide):ce (cr X.prog X.w) X.A (cO (.Name x pos) X.env) Q E s :=
 Calls.Name_function_global I.ok.kind hg (Calls.loadGlobal_global (by rw[I.ok.glob];exact I.mod.glob.keeps I.bk) hm h) hd
theorem j0 (I:Inv X bH σ H s)(hg:Gl X x)(hm:X.mg x=none)(hv:dr x=some u)(h:Q u s)
  (hn:x≠"__name__":=by decide) (hd:(x==("__debug__":Str))=false:=by decide):ce (cr X.prog X.w) X.A (cO (.Name x pos) X.env) Q E s:=by
 obtain⟨mb,h1,h2⟩:=I.mod.blt
 exact Calls.Name_function_global I.ok.kind hg (Calls.loadGlobal_builtin (by rw[I.ok.glob];exact I.mod.glob.keeps I.bk) hm (by rw[I.ok.blt];exact h1.keeps I.bk) ((h2 x hn).trans hv) h) hd
theorem HB (hg:Gl X x)(hm:X.mg x=some u)(r:RelV v u)(hd:(x==("__debug__":Str))=false:=by decide):PE X (.Name x pos) (tC v) :=
 λ_ _ _ H _ I h=>wo I hg hm ⟨v,H,I,r,h⟩ hd
theorem Rf (hg:Gl X x)(hm:X.mg x=none)(hv:dr x=some u)(r:RelV v u)(hn:x≠"__name__":=by decide)(hd:(x==("__debug__":Str))=false:=by decide):PE X (.Name x pos) (tC v) :=
 λ_ _ _ H _ I h=>j0 I hg hm hv ⟨v,H,I,r,h⟩ hn hd
noncomputable def Oc (ta tb:TE)(k:Int->Int->Hp->Prop):St->Hp->Prop:=λσ H=>ta σ H λx H1=>tb σ H1 λy H2=>∃i j,x=.int i/\y=.int j/\k i j H2
variable {a b:Expr}
noncomputable def PC (X:Cx)(op:qP)(a b:Expr)(t:TE):Prop :=
 ∀(bH:List (bI×gH)) (s:bP) (σ:St) (H:Hp) (Q:VK),Inv X bH σ H s->t σ H Q ->
  ce (cr X.prog X.w) X.A (cO a X.env) (λv s₁=>ce (cr X.prog X.w) X.A (cO b X.env) (λu s₂=>ce (cr X.prog X.w) X.A (dZ op v u) (EP X bH σ Q) X.xe s₂) X.xe s₁) X.xe s
theorem xB (b:Expr)(h:op≠.In)(h2:op≠.NotIn):dU op b=false:=by
 have e1:(op==qP.In)=false:=by cases op<;>first|rfl|exact absurd rfl h
 have e2:(op==qP.NotIn)=false:=by cases op<;>first|rfl|exact absurd rfl h2
 cases b<;>simp[dU,e1,e2]
noncomputable def Bo (p:Int->Int->Bool)(ta tb:TE):TE:=λσ H Q=>Oc ta tb (λi j H2=>Q (.bl (p i j)) H2) σ H
noncomputable abbrev yD:TE->TE->TE:=Bo λi j=>decide (i<j)
noncomputable abbrev BU:TE->TE->TE:=Bo λi j=>decide (j<i)
noncomputable abbrev Ju:TE->TE->TE:=Bo λi j=>decide (j<=i)
noncomputable def tB (t:TE):TT:=λσ H Q=>t σ H λx H1=>∃c,x=.bl c/\Q c H1
theorem HL {t:TE}(h:PC X op a b t)(h1:dU op b=false:=by first|exact xB _ (by decide) (by decide)|rfl):PT X (.Compare a [op] [b] pos) (tB t):=by
 intro bH s σ H Q I hw
 refine wpAny_isTrue_Compare1 (eL (h bH s σ H _ I hw) λv s1 h1=>eL h1 λu s2 h2=>eL h2 λc s3 ⟨x,H1,I1,r1,q1⟩=>?_) h1
 obtain⟨d,rfl,q⟩:=q1
 cases r1
 exact gM ⟨H1,I1,q⟩
theorem Sx {t:TE}(h:PE X e t)(he:∀whole,vW e X.env whole=(do let v ← whole;jO e.pos;gh [v] (truthy v)):=by intro _;rfl):PT X e (tB t):=by
 intro bH s σ H Q I hw
 refine isTrue_plain (eL (h bH s σ H _ I hw) λv s1 ⟨x,H1,I1,r1,q1⟩=>?_) (he _)
 obtain⟨d,rfl,q⟩:=q1
 cases r1
 exact gM ⟨H1,I1,q⟩
variable {tA Ex:TT}{rest:List Expr}
noncomputable def GW (t u:TT):TT:=λσ H Q=>t σ H λc H1=>if c=true then u σ H1 Q else Q false H1
noncomputable def Og (t u:TT):TT:=λσ H Q=>t σ H λc H1=>if c=true then Q true H1 else u σ H1 Q
noncomputable def G5 (t:TT):TT:=λσ H Q=>t σ H λc H1=>Q (!c) H1
theorem KQ (ha:PT X a tA):PW X (.BoolOp .And [a] pos) tA:=by
 intro wh bH s σ H Q I h
 refine isTrue_and (eL (ha bH s σ H Q I h) λc s1 e=>?_)
 cases c with
 |true=>exact isTrue_and_nil e
 |false=>exact e
theorem Ls (ha:PT X a tA):PW X (.BoolOp .Or [a] pos) tA:=by
 intro wh bH s σ H Q I h
 refine isTrue_or (eL (ha bH s σ H Q I h) λc s1 e=>?_)
 cases c with
 |false=>exact isTrue_or_nil e
 |true=>exact e
theorem Lu (ha:PT X a tA)(hb:PW X (.BoolOp .And (b::rest) pos) Ex):PW X (.BoolOp .And (a::b::rest) pos) (GW tA Ex):=by
 intro wh bH s σ H Q I h
 refine isTrue_and (eL (ha bH s σ H _ I h) λc s1 fk=>?_)
 obtain⟨H1,I1,q1⟩:=fk
 cases c with
 |true=>exact hb wh bH s1 σ H1 Q I1 q1
 |false=>exact⟨H1,I1,q1⟩
theorem L8 (ha:PT X a tA)(hb:PW X (.BoolOp .Or (b::rest) pos) Ex):PW X (.BoolOp .Or (a::b::rest) pos) (Og tA Ex):=by
 intro wh bH s σ H Q I h
 refine isTrue_or (eL (ha bH s σ H _ I h) λc s1 fk=>?_)
 obtain⟨H1,I1,q1⟩:=fk
 cases c with
 |true=>exact⟨H1,I1,q1⟩
 |false=>exact hb wh bH s1 σ H1 Q I1 q1
theorem Sy (ha:PT X a tA):PT X (.UnaryOp .Not a pos) (G5 tA):=by
 intro bH s σ H Q I h
 exact isTrue_not (ha bH s σ H (λc H1=>Q (!c) H1) I h)
noncomputable def Ds (ta tb:TE):TE:=λσ H Q=>ta σ H λx H1=>∃c,x=.bl c/\if c=true then tb σ H1 Q else Q (.bl false) H1
noncomputable def G6 (ta tb:TE):TE:=λσ H Q=>ta σ H λx H1=>∃c,x=.bl c/\if c=true then Q (.bl true) H1 else tb σ H1 Q
theorem SA {op}{t:TE}(h:PE X a t):PE X (.BoolOp op [a] pos) t:=λbH s σ H Q I hw=>BoolOp_one (h bH s σ H Q I hw)
theorem SC (ha:PE X a ta)(hb:PE X (.BoolOp .And (b::rest) pos) tb):PE X (.BoolOp .And (a::b::rest) pos) (Ds ta tb):=by
 intro bH s σ H Q I h
 refine BoolOp_and (eL (ha bH s σ H _ I h) λv s1 fk=>?_)
 obtain⟨x,H1,I1,r1,q1⟩:=fk
 obtain⟨c,rfl,q1⟩:=q1
 cases r1
 refine gM ?_
 cases c with
 |true=>exact hb bH s1 σ H1 Q I1 q1
 |false=>exact⟨.bl false,H1,I1,rfl,q1⟩
theorem UE (ha:PE X a ta)(hb:PE X (.BoolOp .Or (b::rest) pos) tb):PE X (.BoolOp .Or (a::b::rest) pos) (G6 ta tb):=by
 intro bH s σ H Q I h
 refine BoolOp_or (eL (ha bH s σ H _ I h) λv s1 fk=>?_)
 obtain⟨x,H1,I1,r1,q1⟩:=fk
 obtain⟨c,rfl,q1⟩:=q1
 cases r1
 refine gM ?_
 cases c with
 |false=>exact hb bH s1 σ H1 Q I1 q1
 |true=>exact⟨.bl true,H1,I1,rfl,q1⟩
noncomputable def Oe (t:TT)(ta tb:TE):TE:=λσ H Q=>t σ H λc H1=>if c=true then ta σ H1 Q else tb σ H1 Q
theorem Qt (hc:PT X c tA)(ha:PE X a ta)(hb:PE X b tb):PE X (.IfExp c a b pos) (Oe tA ta tb):=by
 intro bH s σ H Q I h
 refine wpAny_IfExp (eL (hc bH s σ H _ I h) λd s1 fk=>?_)
 obtain⟨H1,I1,q1⟩:=fk
 cases d with
 |true=>exact ha bH s1 σ H1 Q I1 q1
 |false=>exact hb bH s1 σ H1 Q I1 q1
end
noncomputable def gp (K:bG)(H:Hp)(a:bI)(xs:List V):Prop :=
 Rd H a (.lst xs) \/
  ∃(o:gH) (df:Array bC) (n:Nat),K.lookup a=some o/\o.cls=.type "list"/\o.dict=none/\o.data=.seq df n/\df.size<=sizeLine/\c8 xs df.toList
noncomputable def lN (K:bG)(H:Hp)(a:bI)(xs:List V):Prop :=
 Rd H a (.tup xs) \/
  ∃(o:gH) (df:Array bC) (n:Nat),K.lookup a=some o/\o.cls=.type "tuple"/\o.data=.seq df n/\df.size<=sizeLine/\c8 xs df.toList
noncomputable def Fs:bC->Option V
 |.none=>some .non
 |.bool b=>some (.bl b)
 |.int i _=>some (.int i)
 |.str x _=>some (.str x)
 |.bytes b _=>some (.byt b)
 |.float b _=>some (.flt b)
 |.ref a=>some (.ref a)
 |.type n=>some (.ty n)
 |_=>none
theorem RelV.abs {x:V}(r:RelV x u):Fs u=some x:=by
 cases x with
 |non=>cases r;rfl
 |bl _=>cases r;rfl
 |int _=>obtain⟨t,rfl⟩:=r;rfl
 |str _=>obtain⟨t,rfl⟩:=r;rfl
 |byt _=>obtain⟨t,rfl⟩:=r;rfl
 |flt _=>obtain⟨t,rfl⟩:=r;rfl
 |ref _=>cases r;rfl
 |ty _=>cases r;rfl
variable {y:V}
theorem RelV.inj {x:V}(r:RelV x u)(q:RelV y u):x=y:=Option.some.inj (r.abs.symm.trans q.abs)
theorem c8.inj:∀{xs ys:List V} {us:List bC},c8 xs us->c8 ys us->xs=ys
 |_,_,_,.nil,.nil=>rfl
 |_,_,_,.cons r t,.cons r' t'=>by rw[r.inj r',c8.inj t t']
section
variable {ys:List V}
theorem gp.of {K:bG}(h:H a=some (.lst xs)):gp K H a xs:=.inl (.inl h)
theorem lN.of {K:bG}(h:H a=some (.tup xs)):lN K H a xs:=.inl (.inl h)
theorem Inv.list (I:Inv X bH σ H s)(h:gp X.K H a xs):∃df:List bC,c8 xs df/\PlainL s.heap a df.toArray/\xs.length<=sizeLine:=by
 rcases h with h|⟨o,df,n,hk,hc,hd,hs,hz,r⟩
 ·obtain⟨z,df,n,r,e⟩:=h.ok I.hok
  exact⟨df,r,⟨_,n,e,rfl,rfl,rfl⟩,z⟩
 ·refine⟨df.toList,r,⟨o,n,I.kIn a o hk,hc,hd,by simpa using hs⟩,?_⟩
  have e:=r.length
  simp only[eP]at e
  omega
theorem Inv.tuple (I:Inv X bH σ H s)(h:lN X.K H a xs):∃df:List bC,c8 xs df/\IsTup s.heap a df.toArray/\xs.length<=sizeLine:=by
 rcases h with h|⟨o,df,n,hk,hc,hs,hz,r⟩
 ·obtain⟨z,df,r,p⟩:=h.ok I.hok
  exact⟨df,r,p,z⟩
 ·refine⟨df.toList,r,⟨o,I.kIn a o hk,hc,n,by simpa using hs⟩,?_⟩
  have e:=r.length
  simp only[eP]at e
  omega
theorem Inv.list_inj (I:Inv X bH σ H s)(h:gp X.K H a xs)(h':gp X.K H a ys):xs=ys:=by
 obtain⟨df,r,⟨o,n,e,_,_,d⟩,_⟩:=I.list h
 obtain⟨its',r',⟨o',n',e',_,_,d'⟩,_⟩:=I.list h'
 rw[e]at e';cases e'
 rw[d]at d'
 injection d' with d1 _
 have:df=its':=by simpa using congrArg Aa d1
 subst this
 exact r.inj r'
theorem Inv.tuple_inj (I:Inv X bH σ H s)(h:lN X.K H a xs)(h':lN X.K H a ys):xs=ys:=by
 obtain⟨df,r,⟨o,e,_,n,d⟩,_⟩:=I.tuple h
 obtain⟨its',r',⟨o',e',_,n',d'⟩,_⟩:=I.tuple h'
 rw[e]at e';cases e'
 rw[d]at d'
 injection d' with d1 _
 have:df=its':=by simpa using congrArg Aa d1
 subst this
 exact r.inj r'
end
noncomputable abbrev Cx.wish (X:Cx) (E:bC->bP->Prop):Cx:={ X with xe:=E }
noncomputable abbrev Cx.nox (X:Cx):Cx:=X.wish λ_ _=>False
theorem Cx.Ok.wish (ok:X.Ok)(E:bC->bP->Prop):(X.wish E).Ok :=
 ⟨ok.mod,ok.kind,ok.glob,ok.blt,ok.above,ok.inj,ok.has,ok.cab,ok.hd,ok.frames,ok.stk,ok.exf,ok.bs,ok.bsz,ok.noex,ok.exfs,ok.funs,ok.frf⟩
theorem Cx.Ok.unwish (ok:(X.wish E).Ok):X.Ok :=
 ⟨ok.mod,ok.kind,ok.glob,ok.blt,ok.above,ok.inj,ok.has,ok.cab,ok.hd,ok.frames,ok.stk,ok.exf,ok.bs,ok.bsz,ok.noex,ok.exfs,ok.funs,ok.frf⟩
theorem Inv.wish (I:Inv X bH σ H s)(E:bC->bP->Prop):Inv (X.wish E) bH σ H s:=⟨I.ok.wish E,I.os,I.bare,I.base,I.loc,I.cell,I.free,I.freeC,I.pin,I.hok,I.len⟩
theorem Inv.unwish (I:Inv (X.wish E) bH σ H s):Inv X bH σ H s:=⟨I.ok.unwish,I.os,I.bare,I.base,I.loc,I.cell,I.free,I.freeC,I.pin,I.hok,I.len⟩
theorem SP.unwish {D:nG}{f:Flow}(h:SP (X.wish E) bH D f s'):SP X bH D f s':=by
 cases f with
 |next=>obtain⟨σ',H',I,q⟩:=h;exact⟨σ',H',I.unwish,q⟩
 |brk=>obtain⟨σ',H',I,q⟩:=h;exact⟨σ',H',I.unwish,q⟩
 |cont=>obtain⟨σ',H',I,q⟩:=h;exact⟨σ',H',I.unwish,q⟩
 |ret u=>obtain⟨v,σ',H',I,r,q⟩:=h;exact⟨v,σ',H',I.unwish,r,q⟩
theorem tD.nox {st:List dH}{t:TS}(h:tD X.nox st t):tD X st t:=λbH s σ H D I hw=>
 eW (h bH s σ H D (I.wish _) hw) (λ_ _ q=>q.unwish) λ_ _ z=>False.elim z
variable {te:TE}
section
variable {st:dH}{rest:List dH}{t u:TS}
noncomputable def Dx:TS:=λD σ H=>D.nx σ H
noncomputable def G9 (t u:TS):TS:=λD σ H=>t { D with nx:=u D } σ H
theorem Rg:tD X [] Dx:=λ_ _ σ H _ I h=>mK ⟨σ,H,I,h⟩
theorem Kr (h1:PS X st t)(h2:tD X rest u):tD X (st::rest) (G9 t u):=by
 intro bH s σ H D I h
 refine wpAny_execs_cons (eL (h1 bH s σ H { D with nx:=u D } I h) λf s1 q=>?_)
 cases f with
 |next=>
  obtain⟨σ',H',I',q⟩:=q
  exact h2 bH s1 σ' H' D I' q
 |ret v=>exact q
 |brk=>exact q
 |cont=>exact q
theorem HC (h1:PS X st t):tD X [st] t:=by
 intro bH s σ H D I h
 refine wpAny_execs_cons (eL (h1 bH s σ H D I h) λf s1 q=>?_)
 cases f with
 |next=>exact mK q
 |ret v=>exact q
 |brk=>exact q
 |cont=>exact q
theorem Inv.quiet (I:Inv X bH σ H s):interactive X.env=false:=by simp[interactive,I.ok.kind]
noncomputable def Dw (te:TE):TS:=λD σ H=>te σ H λ_ H1=>D.nx σ H1
theorem HE (he:PE X e te)(hs:eI e none pos.line X.env=pure false:=by rfl):PS X (.Expr e pos) (Dw te):=by
 intro bH s σ H D I h
 exact wpAny_Expr_any (eL (he bH s σ H _ I h) λv s1 ⟨x,H1,I1,r1,q1⟩=>⟨σ,H1,I1,q1⟩) I.quiet hs
noncomputable def G8 (te:TE):TS:=λD σ H=>te σ H D.rt
theorem DD (he:PE X e te):PS X (.Return (some e) pos) (G8 te):=by
 intro bH s σ H D I h
 exact wpAny_Return_some (eL (he bH s σ H _ I h) λv s1 ⟨x,H1,I1,r1,q1⟩=>⟨x,σ,H1,I1,r1,q1⟩)
noncomputable def G3 (c:TT)(t u:TS):TS:=λD σ H=>c σ H λb H1=>if b=true then t D σ H1 else u D σ H1
theorem L9 {a b:List dH}{tc:TT}(hc:PT X c tc)(ha:tD X a t)(hb:tD X b u):PS X (.If c a b pos) (G3 tc t u):=by
 intro bH s σ H D I h
 refine wpAny_If (eL (hc bH s σ H _ I h) λd s1 fk=>?_)
 obtain⟨H1,I1,q1⟩:=fk
 cases d with
 |true=>exact ha bH s1 σ H1 D I1 q1
 |false=>exact hb bH s1 σ H1 D I1 q1
noncomputable def Bq:TS:=λ_ _ _=>False
theorem Qu:PS X st Bq:=λ_ _ _ _ _ _ h=>h.elim
end
noncomputable abbrev TG:=V->St->Hp->(St->Hp->Prop)->Prop
noncomputable abbrev Ak:=List V->St->Hp->(St->Hp->Prop)->Prop
noncomputable def PG (X:Cx)(target:Expr)(t:TG):Prop :=
 ∀(bH:List (bI×gH)) (s:bP) (σ:St) (H:Hp) (v:V) (u:bC) (Q:St->Hp->Prop),Inv X bH σ H s->RelV v u->t v σ H Q ->
  ce (cr X.prog X.w) X.A (kO target X.env u) (λ_ s'=>∃σ' H',Inv X bH σ' H' s'/\Q σ' H') X.xe s
noncomputable def BA (X:Cx)(ts:List Expr)(t:Ak):Prop :=
 ∀(bH:List (bI×gH)) (s:bP) (σ:St) (H:Hp) (vs:List V) (us:List bC) (Q:St->Hp->Prop),Inv X bH σ H s->c8 vs us->t vs σ H Q ->
  ce (cr X.prog X.w) X.A (assignInOrder ((eu ts X.env).map (·.2)) us) (λ_ s'=>∃σ' H',Inv X bH σ' H' s'/\Q σ' H') X.xe s
noncomputable abbrev wL:=V->V->V->Hp->(Hp->Prop)->Prop
noncomputable def AO (X:Cx)(t:wL):Prop :=
 ∀(bH:List (bI×gH)) (s:bP) (σ:St) (H:Hp) (o i v:V) (ov iv u:bC) (Q:Hp->Prop),Inv X bH σ H s->RelV o ov->RelV i iv->RelV v u->t o i v H Q ->
  ce (cr X.prog X.w) X.A (rS ov iv u) (λ_ s'=>∃H',Inv X bH σ H' s'/\Q H') X.xe s
noncomputable abbrev BC:=V->V->Hp->VK->Prop
noncomputable def BB (X:Cx)(op:nB)(t:BC):Prop :=
 ∀(bH:List (bI×gH)) (s:bP) (σ:St) (H:Hp) (x y:V) (v u:bC) (Q:VK),Inv X bH σ H s->RelV x v->RelV y u->t x y H Q ->
  ce (cr X.prog X.w) X.A (inplaceOp op v u) (EP X bH σ Q) X.xe s
variable {es:List Expr}{g:TG}{n:Nat}{o tg:Expr}{pos' mQ:mZ}{to:TE}
noncomputable def uF (i:Nat):TG:=λv σ H Q=>Q (σ.set i (some v)) H
theorem KR (hN:X.N.Nodup)(hi:X.N[i]?=some x)(hx:Loc X.env.scope x)(hf:X.fn x=true\/X.env.scope.names.lookup x=some .local:=by first|exact .inl rfl|exact .inr rfl|assumption):PG X (.Name x pos) (uF i):=by
 intro bH s σ H v u Q I r h
 exact wpAny_assign_Name (ue I hN hi hx r (λs' I'=>⟨_,H,I',h⟩) hf)
noncomputable def Fz:Ak:=λvs σ H Q=>vs=[]/\Q σ H
noncomputable def Ck (t:TG)(u:Ak):Ak:=λvs σ H Q=>∃v r,vs=v::r/\t v σ H λσ' H'=>u r σ' H' Q
theorem KS:BA X [] Fz:=by
 intro bH s σ H vs us Q I r h
 obtain⟨e,h⟩:=h
 subst e
 cases r
 exact assignInOrder_nil ⟨σ,H,I,h⟩
theorem Ks {t:TG}{u:Ak}(h1:PG X e t)(h2:BA X es u)
  (hs:(eu (e::es) X.env).map (·.2)=kO e X.env::(eu es X.env).map (·.2):=by rfl):BA X (e::es) (Ck t u):=by
 intro bH s σ H vs us Q I r h
 obtain⟨v,vr,e1,h⟩:=h
 subst e1
 cases r with
 |cons r rr=>
  rw[hs]
  refine assignInOrder_cons (eL (h1 bH s σ H _ _ _ I r h) λ_ s1 fk=>?_)
  obtain⟨σ1,H1,I1,q1⟩:=fk
  exact h2 bH s1 σ1 H1 _ _ Q I1 rr q1
noncomputable def FB (K:bG)(n:Nat)(t:Ak):TG:=λv σ H Q=>∃a xs,v=.ref a/\lN K H a xs/\xs.length=n/\t xs σ H Q
theorem Lv {k:Nat}{t:Ak}(hc:X.calm=true)(h:BA X es t)
  (hn:(eu es X.env).length=n:=by rfl) (mj:(eu es X.env).findIdx? (·.1)=none:=by rfl):PG X (.Tuple es k pos) (FB X.K n t):=by
 intro bH s σ H v u Q I r hw
 obtain⟨a,xs,e1,hq,hl,hw⟩:=hw
 subst e1
 cases r
 obtain⟨df,rv,ht,hz⟩:=I.tuple hq
 refine assign_Tuple_tuple (I.ok.hd hc) ht (by simp[hn,←hl,rv.length]) mj λh' hx=>?_
 have I1:Inv X bH σ H { s with heap:=h' }:=I.kept (t':=s.toks) λb o e=>hx b o (cy (bR e)) e
 exact h bH _ σ H xs _ Q I1 (by simpa using rv) hw
noncomputable def FA (to ti:TE)(t:wL):TG:=λv σ H Q=>to σ H λo H1=>ti σ H1 λi H2=>t o i v H2 λH3=>Q σ H3
theorem SD {i:Expr}{ti:TE}{t:wL}(ho:PE X o to)(hi:PE X i ti)(hs:AO X t)
  (ha:∀v,kO (.Subscript o i pos) X.env v=(do
   let ov ← gh [v] (cO o X.env)
   let iv ← gh [v,ov] (cO i X.env)
   jO pos
   gh [v,ov,iv] (rS ov iv v)
   release [v,ov,iv] []):=by intro _;rfl):PG X (.Subscript o i pos) (FA to ti t):=by
 intro bH s σ H v u Q I r h
 rw[ha]
 refine bD (uB (eL (ho bH s σ H _ I h) λov s1 fk=>?_))
 obtain⟨x,H1,I1,r1,q1⟩:=fk
 refine bD (uB (eL (hi bH s1 σ H1 _ I1 q1) λiv s2 fk=>?_))
 obtain⟨y,H2,I2,r2,q2⟩:=fk
 refine bD (oy (bD (uB (eL (hs bH s2 σ H2 x y v ov iv u _ I2 r1 r2 r q2) λ_ s3 fk=>?_))))
 obtain⟨H3,I3,q3⟩:=fk
 exact wpAny_release ⟨σ,H3,I3,q3⟩
noncomputable def Bn (te:TE)(g:TG):TS:=λD σ H=>te σ H λx H1=>g x σ H1 D.nx
theorem Lw (he:PE X e te)(hg:PG X tg g)(hs:lL [tg] e pos.line X.env=pure false:=by rfl)(hw:lK [tg] e X.env=pure none:=by rfl)
  (h1:(eu [tg] X.env).map (·.2)=[kO tg X.env]:=by rfl):PS X (.Assign [tg] e pos) (Bn te g):=by
 intro bH s σ H D I h
 refine wpAny_Assign_stores (eL (he bH s σ H _ I h) λv s1 ⟨x,H1,I1,r1,q1⟩=>?_) hs hw
 rw[h1]
 exact eL (hg bH s1 σ H1 x v _ I1 r1 q1) λ_ s2 q=>q
theorem Lx (hN:X.N.Nodup)(hi:X.N[i]?=some x)(hx:Loc X.env.scope x)(he:PE X e te)(hs:eI e (some (.Name x pos')) pos.line X.env=pure false:=by rfl)(hf:X.fn x=true\/X.env.scope.names.lookup x=some .local:=by first|exact .inl rfl|exact .inr rfl|assumption) :
  PS X (.Assign [.Name x pos'] e pos) (Bn te (uF i)):=by
 intro bH s σ H D I h
 refine wpAny_Assign_Name (eL (he bH s σ H _ I h) λv s1 ⟨y,H1,I1,r1,q1⟩=>?_) hs
 exact ue I1 hN hi hx r1 (λs2 I2=>⟨_,H1,I2,q1⟩) hf
noncomputable def G7 (i j:Nat)(ta:TA):TS:=λD σ H=>ta σ H λvs H1=>∃v w,vs=[v,w]/\D.nx ((σ.set i (some v)).set j (some w)) H1
theorem SE {y:Str}{a b:Expr}{ta:TA}{px py pt:mZ}{kt k2 nh}(hc:X.calm=true)(hN:X.N.Nodup)(hi:X.N[i]?=some x)(hj:X.N[j]?=some y)(FX:i≠j)
    (hx:X.env.scope.names.lookup x=some .local) (hy:X.env.scope.names.lookup y=some .local) (ha:PA X [a,b] ta)
    (hw:lK [.Tuple [.Name x px,.Name y py] kt pt] (.Tuple [a,b] k2 nh) X.env=pure (some [x,y]))
    (hs:lL [.Tuple [.Name x px,.Name y py] kt pt] (.Tuple [a,b] k2 nh) pos.line X.env=pure false:=by rfl) :
    PS X (.Assign [.Tuple [.Name x px,.Name y py] kt pt] (.Tuple [a,b] k2 nh) pos) (G7 i j ta):=by
  intro bH s σ H D I h
  rw[exec_Assign_arm]
  refine bD (oy ?_)
  rw[hs]
  refine bD (b9 ?_)
  rw[if_neg (by decide)]
  refine bD (Tuple_ (eL (ha _ bH s σ H _ I h) λus s1 fk=>?_))
  obtain⟨vs,H1,I1,r1,q1⟩:=fk
  obtain⟨v,w,e1,q1⟩:=q1
  subst e1
  obtain⟨u1,u2,rfl,rv,vG⟩:∃u1 u2,us=[u1,u2]/\RelV v u1/\RelV w u2:=by
    cases r1 with
    |cons p q=>
      cases q with
      |cons p' q'=>
        cases q'
        exact⟨_,_,rfl,p,p'⟩
  refine lA ?_ (by show 2<=sizeLine;decide)
  have I2:Inv X bH σ H1 { s1 with heap:=s1.heap.push { cls:=.type "tuple",data:=.seq [u1,u2].toArray } }:=I1.kept (t':=s1.toks) λb o e=>bE _ e
  rw[hw]
  refine bD (b9 ?_)
  show ce (cr X.prog X.w) X.A (do rule "assign.swapped-stores";let items ← unpackItems (.ref s1.heap.objs.size) 2 none;assignInOrder [λv=>bindName X.env y v,λv=>bindName X.env x v] items.reverse;pure Flow.next) _ _ _
  refine bD (wpAny_rule (bD (unpackItems_tuple (items:=#[u1,u2]) (I.ok.hd hc) (IsTup.new s1.heap _) λh' A8=>?_)))
  have I3:=I2.kept (h':=h') (t':=s1.toks) λb o e=>A8 b o (cy (bR e)) e
  show ce _ _ (assignInOrder [λv=>bindName X.env y v,λv=>bindName X.env x v] [u2,u1] >>= λ_=>pure Flow.next) _ _ _
  refine bD (assignInOrder_cons (wpAny_bindName (ue I3 hN hj (.inl hy) vG (λs2 I4=>?_) (.inr hy))))
  refine assignInOrder_cons (wpAny_bindName (ue I4 hN hi (.inl hx) rv (λs3 I5=>assignInOrder_nil (b9 ?_)) (.inr hx)))
  rw[List.set_comm _ _ (Ne.symm FX)]at I5
  exact⟨_,H1,I5,q1⟩
noncomputable def GX (i:Nat)(te:TE)(ti:BC):TS:=λD σ H=>∃x,σ[i]?=some (some x)/\te σ H λy H1=>ti x y H1 λz H2=>D.nx (σ.set i (some z)) H2
theorem SG {op:nB}{ti:BC}(hN:X.N.Nodup)(hi:X.N[i]?=some x)(hx:Loc X.env.scope x)(he:PE X e te)(ho:BB X op ti)(hf:X.fn x=true\/X.env.scope.names.lookup x=some .local:=by first|exact .inl rfl|exact .inr rfl|assumption) :
  PS X (.AugAssign (.Name x pos') op e pos) (GX i te ti):=by
 intro bH s σ H D I h
 obtain⟨v,e1,h⟩:=h
 obtain⟨m,hn,hl⟩:=I.loc
 have Ot:rY X.env.scope x:=by rcases hx with k|k;exact .inl k;exact .inr (.inl k)
 obtain⟨u,r,l⟩:=hl i x v hi e1 Ot
 refine wpAny_AugAssign_Name ?_
 have go:ce (cr X.prog X.w) X.A (cO e X.env) (λw s₂=>ce (cr X.prog X.w) X.A (inplaceOp op u w) (λr s₃=>ce (cr X.prog X.w) X.A (storeName X.env x r) (λ_=>SP X bH D .next) X.xe s₃) X.xe s₂) X.xe s:=by
  refine eL (he bH s σ H _ I h) λw s1 fk=>?_
  obtain⟨y,H1,I1,r1,q1⟩:=fk
  refine eL (ho bH s1 σ H1 v y u w _ I1 r r1 q1) λz s2 fk=>?_
  obtain⟨zv,H2,I2,r2,q2⟩:=fk
  exact ue I2 hN hi hx r2 (λs3 I3=>⟨_,H2,I3,q2⟩) hf
 rcases l with⟨hk,hm⟩|⟨hk,c,hc,uH⟩
 ·exact wpAny_loadName_local I.ok.kind hk hn hm go
 ·rcases hk with hk|hk
  ·exact wpAny_loadName_cell I.ok.kind hk hc uH go
  ·rcases hx with k|k
   ·have:X.env.scope.names.lookup x=some .free:=hk
    rw[k]at this;cases this
   ·have:X.env.scope.names.lookup x=some .free:=hk
    rw[k]at this;cases this
noncomputable def Du (to ti te:TE)(zT:V->V->Hp->VK->Prop)(EB:BC)(zU:wL):TS:=λD σ H=>to σ H λo H1=>ti σ H1 λi H2=>zT o i H2 λx H3=>te σ H3 λy H4=>EB x y H4 λz H5=>zU o i z H5 λH6=>D.nx σ H6
noncomputable def Ca (X:Cx)(t:V->V->Hp->VK->Prop):Prop :=
 ∀(bH:List (bI×gH)) (s:bP) (σ:St) (H:Hp) (o i:V) (ov iv:bC) (Q:VK),Inv X bH σ H s->RelV o ov->RelV i iv->t o i H Q ->
  ce (cr X.prog X.w) X.A (pM ov iv) (EP X bH σ Q) X.xe s
theorem Rh {i:Expr}{ti:TE}{zT:V->V->Hp->VK->Prop}{EB:BC}{zU:wL}{op:nB}(ho:PE X o to)(hi:PE X i ti)(hg:Ca X zT)(he:PE X e te)(hp:BB X op EB)(hs:AO X zU)
  (ha:∀ov iv new,augStore i ov iv new=(do gh [new,ov,iv] (rS ov iv new);release [new,ov,iv] [];pure .next):=by intros;rfl):PS X (.AugAssign (.Subscript o i mQ) op e pos) (Du to ti te zT EB zU):=by
 intro bH s σ H D I h
 refine wpAny_AugAssign_SubscriptAny (eL (ho bH s σ H _ I h) λov s1 ⟨x1,H1,I1,r1,q1⟩=>?_) ha
 refine eL (hi bH s1 σ H1 _ I1 q1) λiv s2 fk=>?_
 obtain⟨x2,H2,I2,r2,q2⟩:=fk
 refine eL (hg bH s2 σ H2 x1 x2 ov iv _ I2 r1 r2 q2) λold s3 fk=>?_
 obtain⟨x3,H3,I3,r3,q3⟩:=fk
 refine eL (he bH s3 σ H3 _ I3 q3) λv s4 fk=>?_
 obtain⟨x4,H4,I4,r4,q4⟩:=fk
 refine eL (hp bH s4 σ H4 x3 x4 old v _ I4 r3 r4 q4) λnew s5 fk=>?_
 obtain⟨x5,H5,I5,r5,q5⟩:=fk
 exact eL (hs bH s5 σ H5 x1 x2 x5 ov iv new _ I5 r1 r2 r5 q5) λ_ s6 ⟨H6,I6,q6⟩=>⟨σ,H6,I6,q6⟩
noncomputable def Ee (f:Int->Int->Int):BC:=λx y H Q=>∃i j,x=.int i/\y=.int j/\Q (.int (f i j)) H
theorem LF:BB X .Add (Ee λi j=>i+j):=by
 intro bH s σ H x y v u Q I r1 r2 h
 obtain⟨i,j,e1,e2,q⟩:=h
 subst e1;subst e2
 obtain⟨t,rfl⟩:=r1
 obtain⟨t',rfl⟩:=r2
 exact iadd_int ⟨.int _,H,I.tok _,⟨_,rfl⟩,q⟩
theorem SH:BB X .Sub (Ee λi j=>i-j):=by
 intro bH s σ H x y v u Q I r1 r2 h
 obtain⟨i,j,e1,e2,q⟩:=h
 subst e1;subst e2
 obtain⟨t,rfl⟩:=r1
 obtain⟨t',rfl⟩:=r2
 exact isub_int ⟨.int _,H,I.tok _,⟨_,rfl⟩,q⟩
variable {body:List dH}
noncomputable def Bs (c:TT)(tb:TS):TS:=λD σ H=>∃W:Nat->St->Hp->Prop,(∃m,W m σ H)/\∀m σ H,W m σ H ->
 c σ H λb H1=>if b=true then∃N:St->Hp->Prop,(∀σ' H',N σ' H'->∃m',m'<m/\W m' σ' H')/\tb { D with nx:=N,ct:=N,bk:=D.nx } σ H1 else D.nx σ H1
theorem Qv {tc:TT}{tb:TS}(hp:kD (cr X.prog X.w) X.A X.env X.xe)(hc:PT X c tc)(hb:tD X body tb):PS X (.While c body [] pos) (Bs tc tb):=by
 intro bH s σ H D I h
 obtain⟨W,⟨m0,w0⟩,tY⟩:=h
 refine wpAny_While (codeAny_whileLoop (λn s'=>∃σ' H',Inv X bH σ' H' s'/\W n σ' H') ?_ m0 ⟨σ,H,I,w0⟩)
 rintro n s1 ⟨σ1,H1,I1,w1⟩
 refine gG hp (eL (hc bH s1 σ1 H1 _ I1 (tY n σ1 H1 w1)) λb s2 fk=>?_)
 obtain⟨H2,I2,q2⟩:=fk
 cases b with
 |true=>
  obtain⟨N,hN,q2⟩:=q2
  rw[if_pos rfl]
  refine gG hp (eL (hb bH s2 σ1 H2 _ I2 q2) λf s3 q3=>?_)
  cases f with
  |next=>
   obtain⟨σ3,H3,I3,n3⟩:=q3
   obtain⟨m',hm,w3⟩:=hN σ3 H3 n3
   exact⟨m',hm,σ3,H3,I3,w3⟩
  |cont=>
   obtain⟨σ3,H3,I3,n3⟩:=q3
   obtain⟨m',hm,w3⟩:=hN σ3 H3 n3
   exact⟨m',hm,σ3,H3,I3,w3⟩
  |brk=>exact q3
  |ret v=>exact q3
 |false=>
  rw[if_neg bV]
  exact mK ⟨σ1,H2,I2,q2⟩
structure It where
 go:Nat->Hp->Prop
 yld:Nat->Hp->V->Hp->Prop
 stop:Nat->Hp->Prop
noncomputable def oz (X:Cx)(bH:List (bI×gH))(H:Hp)(b:bI):Prop :=
 H b=none/\b≠X.env.locals/\b∉X.fs/\(b∈X.ex\/X.s₀.heap.objs.size<=b)/\(∀x c,X.env.cells.lookup x=some c->c≠b)/\∀p∈X.pn++bH,p.1≠b
theorem Inv.fpOk (I:Inv X bH σ H s)(hb:s.heap.objs.size<=b)(hn:H' b=none):oz X bH H' b:=by
 refine⟨hn,gP (cF I.lt hb),I.nofs hb,.inr (dC I.sz hb),λx c e z=>?_,λp hp z=>?_⟩
 ·obtain⟨v,q⟩:=I.cell x c e
  exact absurd (cF q.lt (by rw[z];exact hb)) (gC _)
 ·exact absurd (cF (bR (I.pin p hp).1) (by rw[z];exact hb)) (gC _)
structure Am (P:dA)(w:cY)(K:bG)(tg:Expr)(J:It)(fp:List bI)(it:bI)(tn:Nat->bU->Prop)(Cs:Cx->Prop):Prop where
 mem:it∈fp
 obj:∀i h,tn i h->∀b∈fp,∃o,h.get? b=some o/\∀v,o.data≠.cell v
 keep:∀i h h',tn i h->(∀b∈fp,∀o,h.get? b=some o->h'.get? b=some o)->tn i h'
 item:∀(X:Cx),X.prog=P->X.w=w->X.K=K->Cs X->∀(i:Nat) (bH:List (bI×gH)) (s:bP) (σ:St) (H:Hp) (E:bC->bP->Prop),Inv X bH σ H s->(∀b∈fp,oz X bH H b)->tn i s.heap->J.go i H ->
  ce (cr P w) X.A (pyNext (.ref it)) (λr s1=>∃u,r=some u /\
   ce (cr P w) X.A (kd tg (.ref it) u) (λ_ s2=>∃x H',Inv X bH σ H' s2/\RelV x u/\J.yld i H x H'/\tn (i+1) s2.heap/\∀b∈fp,H' b=none) E s1) E s
 done:∀(X:Cx),X.prog=P->X.w=w->X.K=K->Cs X->∀(i:Nat) (bH:List (bI×gH)) (s:bP) (σ:St) (H:Hp) (E:bC->bP->Prop),Inv X bH σ H s->(∀b∈fp,oz X bH H b)->tn i s.heap->J.stop i H ->
  ce (cr P w) X.A (pyNext (.ref it)) (λr s1=>r=none/\Inv X bH σ H s1) E s
 self:∀(A:c7) (i:Nat) (s:bP) (Q:bC->bP->Prop) (E:bC->bP->Prop),tn i s.heap->Q (.ref it) s->ce (cr P w) A (pyIter (.ref it)) Q E s
noncomputable abbrev Turn (P:dA) (w:cY) (K:bG) (tg:Expr) (J:It) (fp:List bI) (it:bI) (tn:Nat->bU->Prop):Prop:=Am P w K tg J fp it tn λX=>X.calm=true
noncomputable abbrev TI:=St->Hp->(It->Hp->Prop)->Prop
noncomputable def TurnOk (X:Cx)(c:Prop)(tg:Expr)(J:It)(fp:List bI)(it:bI)(tn:Nat->bU->Prop):Prop:=∃Cs,Am X.prog X.w X.K tg J fp it tn Cs/\(c->∀Y:Cx,Y.A=X.A->Y.calm=X.calm->Cs Y)
variable {fp:List bI}
theorem Turn.ok {J:It}{tn:Nat->bU->Prop}(T:Turn X.prog X.w X.K tg J fp it tn):TurnOk X (X.calm=true) tg J fp it tn:=⟨_,T,λhc _ _ e=>e.trans hc⟩
noncomputable def Cb (X:Cx)(c:Prop)(bH:List (bI×gH))(σ:St)(tg:Expr)(R:It->Hp->Prop)(Gs:bC)(s2:bP):Prop :=
 ∃(it:bI) (fp:List bI) (tn:Nat->bU->Prop) (J:It) (H':Hp),Gs=.ref it/\Inv X bH σ H' s2/\TurnOk X c tg J fp it tn/\tn 0 s2.heap/\(∀b∈fp,oz X bH H' b)/\R J H'
noncomputable abbrev Mz (X:Cx):=Cb X (X.calm=true)
noncomputable def Cc (X:Cx)(c:Prop)(tg iter:Expr)(wi:TI):Prop :=
 ∀(bH:List (bI×gH)) (s:bP) (σ:St) (H:Hp) (R:It->Hp->Prop),Inv X bH σ H s->wi σ H R ->
  ce (cr X.prog X.w) X.A (cO iter X.env) (λv s1=>ce (cr X.prog X.w) X.A (pyIter v) (Cb X c bH σ tg R) X.xe s1) X.xe s
noncomputable abbrev PI (X:Cx):=Cc X (X.calm=true)
theorem Ie {A:c7}{o:gH}{n:String}{vs:Array bC}{Q:Unit->bP->Prop}(ho:s.heap.get? it=some o)(hc:o.cls=.type n)(hd:o.data=.fields vs)
    (hn:["enumerate","zip","dict_itemiterator","dict_reverseitemiterator","odict_iterator","itertools.zip_longest","itertools.pairwise"].contains n=false) (hQ:Q () s):ce M A (kd tg (.ref it) u) Q E s:=by
  unfold kd
  cases tg<;>first
    |exact b9 hQ
    |(cases u<;>first
        |exact b9 hQ
        |(refine bD (wpAny_load ho ?_)
          rw[hc,hd]
          show ce M A (if(["enumerate","zip","dict_itemiterator","dict_reverseitemiterator","odict_iterator","itertools.zip_longest","itertools.pairwise"].contains n&&vs[0]?==some (rawInt _))=true then _ else _) Q E s
          rw[if_neg (by intro h;rw[hn,yG]at h;cases h)]
          exact b9 hQ))
noncomputable def Fk (K:bG)(a:bI):It :=
 ⟨λi H=>∃xs x,gp K H a xs/\xs[i]?=some x,λi H x H'=>H'=H/\∀xs,gp K H a xs->xs[i]?=some x,λi H=>∃xs,gp K H a xs/\xs.length<=i⟩
noncomputable def DS (lo:Int)(n:Nat):It:=⟨λi _=>i<n,λi H x H'=>H'=H/\x=.int (lo+i),λi _=>n<=i⟩
theorem O8 {w:cY}{K:bG}(a it:bI):Turn P w K tg (Fk K a) [it] it (λi h=>h.IsListIter it a i) where
 mem:=by simp
 obj:=λi h st b hb=>by
  have e:b=it:=by simpa using hb
  subst e
  obtain⟨o,e,c,d⟩:=st
  exact⟨o,e,λv z=>by rw[d]at z;cases z⟩
 keep:=λi h h' st k=>st.at λo e=>k it (by simp) o e
 item:=by
  intro X hP hw hK hc i bH s σ H E I hf st hg
  subst hP hw hK
  obtain⟨xs,x,hq,hx⟩:=hg
  obtain⟨df,rv,p,hz⟩:=I.list hq
  obtain⟨u,hu,ru⟩:=rv.get hx
  obtain⟨f0,f1,f2,f3,f4,f5⟩:=hf it (by simp)
  refine wpAny_pyNext_list_item st p.isList (x:=u) (by simpa using hu) λh' wB sb=>?_
  have I1:Inv X bH σ H { s with heap:=h' }:=I.turned (t':=s.toks) (λb o hb e=>(sb.2 b hb).trans e) f0 f1 f3 f4 f5
  obtain⟨o,e,c,d⟩:=id wB
  exact⟨u,rfl,Ie (s:={ s with heap:=h' }) e c d (by decide) ⟨x,H,I1,ru,⟨rfl,λys hy=>by rw[I.list_inj hy hq];exact hx⟩,wB,λb hb=>(hf b hb).1⟩⟩
 done:=by
  intro X hP hw hK hc i bH s σ H E I hf st hg
  subst hP hw hK
  obtain⟨xs,hq,hx⟩:=hg
  obtain⟨df,rv,p,hz⟩:=I.list hq
  obtain⟨f0,f1,f2,f3,f4,f5⟩:=hf it (by simp)
  have hl:=rv.length
  exact wpAny_pyNext_list_end (I.ok.hd hc) st p.isList (by simp;omega) λh' eb=>⟨rfl,I.turned (t':=s.toks) (λb o hb e=>eb b o hb e) f0 f1 f3 f4 f5⟩
 self:=λ_ _ _ _ _ st h=>wpAny_pyIter_listiter st h
theorem Pb {w:cY}{K:bG}(it:bI)(lo:Int)(n:Nat):Turn P w K tg (DS lo n) [it] it (λi h=>IsRangeIter h it (lo+(i:Nat)*1) ((n:Int)-(i:Nat)) 1) where
 mem:=by simp
 obj:=λi h st b hb=>by
  have e:b=it:=by simpa using hb
  subst e
  exact⟨_,st,λv z=>by
   have z':vU.fields _=vU.cell v:=z
   cases z'⟩
 keep:=λi h h' st k=>k it (by simp) _ st
 item:=by
  intro X hP hw hK hc i bH s σ H E I hf st hg
  subst hP hw hK
  obtain⟨f0,f1,f2,f3,f4,f5⟩:=hf it (by simp)
  have W:=Walks.range (prog:=X.prog) (w:=X.w) (I.ok.hd hc) it lo 1 n
  refine W.item i s _ _ hg st λv h' tk hv wB kk=>?_
  obtain⟨t,rfl⟩:=hv
  have I1:Inv X bH σ H { s with heap:=h',toks:=tk }:=I.turned (λb o hb e=>kk b o (by simpa using hb) e) f0 f1 f3 f4 f5
  refine⟨_,rfl,Ie (s:={ s with heap:=h',toks:=tk }) (n:="range_iterator") wB rfl rfl (by decide) ⟨.int (lo+i),H,I1,⟨t,?_⟩,⟨rfl,rfl⟩,wB,λb hb=>(hf b hb).1⟩⟩
  rw[Int.mul_one]
 done:=by
  intro X hP hw hK hc i bH s σ H E I hf st hg
  subst hP hw hK
  obtain⟨f0,f1,f2,f3,f4,f5⟩:=hf it (by simp)
  exact wpAny_pyNext_range_end (I.ok.hd hc) st (by have:n<=i:=hg;omega) λh' eb=>⟨rfl,I.turned (t':=s.toks) (λb o hb e=>eb b o hb e) f0 f1 f3 f4 f5⟩
 self:=λ_ _ _ _ _ st h=>wpAny_pyIter_rangeiter st h
variable {iter l:Expr}{p:mZ}{wi:TI}
noncomputable def CO (K:bG)(tl:TE):TI:=λσ H R=>tl σ H λx H1=>∃a,x=.ref a/\(∃xs,gp K H1 a xs)/\R (Fk K a) H1
theorem KU {tl:TE}(hl:PE X l tl):PI X tg l (CO X.K tl):=by
 intro bH s σ H R I h
 refine eL (hl bH s σ H _ I h) λv s1 fk=>?_
 obtain⟨x,H1,I1,r1,q1⟩:=fk
 obtain⟨a,e,⟨xs,hq⟩,q⟩:=q1
 subst e
 cases r1
 obtain⟨df,rv,p,hz⟩:=I1.list hq
 refine gL p.isList ?_
 refine⟨s1.heap.objs.size,[s1.heap.objs.size],_,_,H1,rfl,I1.kept (t':=s1.toks) λb o e=>bE _ e,(O8 a _).ok,⟨_,bX _ rfl,rfl,rfl⟩,λb hb=>?_,q⟩
 have e:b=s1.heap.objs.size:=by simpa using hb
 subst e
 exact I1.fpOk (bY _) (I1.hok.fresh (bY _))
theorem Qw {R:It->Hp->Prop}{lo hi:Int}{t u v:Tok}{tk:Nat}(I:Inv X bH σ H s)(h1:-(2 ^ 62)<=lo)(h2:lo<2 ^ 62)(h3:-(2 ^ 62)<=hi)(h4:hi<2 ^ 62)
    (q:R (DS lo (hi-lo).toNat) H):ce (cr X.prog X.w) X.A (pyIter (.ref s.heap.objs.size)) (Mz X bH σ tg R) E { s with heap:=s.heap.push { cls:=.type "range",data:=.fields #[.int lo t,.int hi u,.int 1 v] },toks:=tk }:=by
  refine wpAny_pyIter_range (IsRange.new ..) (small_one h1 h2 h3 h4) ?_
  have I1:Inv X bH σ H { s with heap:=s.heap.push { cls:=.type "range",data:=.fields #[.int lo t,.int hi u,.int 1 v] },toks:=tk }:=I.kept λb o e=>bE _ e
  refine⟨(s.heap.push { cls:=.type "range",data:=.fields #[.int lo t,.int hi u,.int 1 v] }).objs.size,[(s.heap.push { cls:=.type "range",data:=.fields #[.int lo t,.int hi u,.int 1 v] }).objs.size],_,_,H,rfl,
    I1.kept (t':=tk) λb o e=>bE _ e,(Pb _ lo (hi-lo).toNat).ok,?_,λb hb=>?_,q⟩
  · have e1:lo+((0:Nat):Int)*1=lo:=by simp
    have e2:(((hi-lo).toNat:Nat):Int)-((0:Nat):Int)=Builtin.Range.rangeSize lo hi 1:=by rw[rangeSize_one];split<;>omega
    show IsRangeIter _ _ (lo+((0:Nat):Int)*1) ((((hi-lo).toNat:Nat):Int)-((0:Nat):Int)) 1
    rw[e1,e2]
    exact bX _ rfl
  · have e:b=(s.heap.push { cls:=.type "range",data:=.fields #[.int lo t,.int hi u,.int 1 v] }).objs.size:=by simpa using hb
    subst e
    exact I1.fpOk (bY _) (I1.hok.fresh (bY _))
noncomputable def CP (ta:TA):TI:=λσ H R=>ta σ H λvs H1=>∃j:Int,vs=[.int j]/\-(2 ^ 62)<=j/\j<2 ^ 62/\R (DS 0 j.toNat) H1
theorem O9 {a:Expr}{ta:TA}(hg:Gl X "range")(hm:X.mg "range"=none)(ha:PA X [a] ta)(hs:bK [a] X.env=[(false,cO a X.env)]:=by rfl):PI X tg (.Call (.Name "range" p) [a] [] pos) (CP ta):=by
 intro bH s σ H R I h
 refine Call_ (j0 I hg hm boot_range (eF (eL (ha pos bH s σ H _ I h) λus s1 ⟨vs,H1,I1,r1,q1⟩=>?_) hs rfl))
 obtain⟨j,e,q1,q2,q⟩:=q1
 subst e
 cases r1 with
 |cons r rr=>
  cases rr
  obtain⟨t,rfl⟩:=r
  exact call_range_1 (Qw I1 (by omega) (by omega) q1 q2 (by simpa using q))
noncomputable def G2 (wi:TI)(g:TG)(tb:TS):TS:=λD σ H=>wi σ H λJ H1=>∃W:Nat->Nat->St->Hp->Prop,(∃m,W 0 m σ H1)/\∀i m σ H,W i m σ H ->
 (J.stop i H/\D.nx σ H)\/(J.go i H/\∃N:St->Hp->Prop,(∀σ' H',N σ' H'->∃m',m'<m/\W (i+1) m' σ' H')/\∀x H',J.yld i H x H'->g x σ H' λσ2 H2=>tb { D with nx:=N,ct:=N,bk:=D.nx } σ2 H2)
noncomputable def pv (fp:List bI)(h:bU):List (bI×gH):=fp.filterMap λb=>(h.get? b).map λo=>(b,o)
theorem ve {o:gH}(hb:b∈fp)(e:h.get? b=some o):(b,o)∈pv fp h:=uP.mpr ⟨b,hb,by rw[e];rfl⟩
theorem Pa {p:bI×gH}(hp:p∈pv fp h):p.1∈fp/\h.get? p.1=some p.2:=by
 obtain⟨b,hb,e⟩:=uP.mp hp
 cases q:h.get? b with
 |none=>rw[q]at e;cases e
 |some o=>
  rw[q]at e
  have e':(b,o)=p:=Option.some.inj e
  subst e'
  exact⟨hb,q⟩
theorem Inv.pinned (I:Inv X bH σ H s)(hf:∀b∈fp,oz X bH H b)(ho:∀b∈fp,∃o,s.heap.get? b=some o/\∀v,o.data≠.cell v):Inv X (bH++pv fp s.heap) σ H s :=
 I.pins_of λp hp=>(cL.mp hp).elim (λz=>I.pin p (bZ _ z)) λz=>by
  obtain⟨hb,e⟩:=Pa z
  obtain⟨f0,f1,f2,_⟩:=hf p.1 hb
  obtain⟨o,e',d⟩:=ho p.1 hb
  rw[e]at e';cases e'
  exact⟨e,f0,f1,f2,d⟩
theorem Inv.unpinned {pl:List (bI×gH)}(I:Inv X (bH++pl) σ H s):Inv X bH σ H s:=I.pins_of λp hp=>I.pin p (bZ _ (cG _ hp))
theorem Tr {tb:TS}(hp:kD (cr X.prog X.w) X.A X.env X.xe)(hc:X.calm=true)(hi:PI X tg iter wi)(hg:PG X tg g)(hb:tD X body tb)
  (hs:∀x,ed iter X.env x=pure x:=by intro _;rfl):PS X (.For tg iter body [] pos) (G2 wi g tb):=by
 intro bH s σ H D I h
 refine wpAny_For (eL (hi bH s σ H _ I h) λv s1 h1=>eL h1 λGs s2 h2=>?_) hs
 obtain⟨it,fp,tn,J,H2,e,I2,T,yC,f2,W,⟨m0,w0⟩,tY⟩:=h2
 obtain⟨Cs,T,hT⟩:=T
 have hc:=hT hc X rfl rfl
 subst e
 have tX:∀{H':Hp},(∀b∈fp,H' b=none)->∀b∈fp,oz X bH H' b:=λhn b hb=>⟨hn b hb,(f2 b hb).2⟩
 refine codeAny_forLoop_any (λn s'=>∃i σ' H',Inv X bH σ' H' s'/\tn i s'.heap/\(∀b∈fp,H' b=none)/\W i n σ' H') ?_ m0 ⟨0,σ,H2,I2,yC,λb hb=>(f2 b hb).1,w0⟩
 rintro n s3 ⟨i,σ3,H3,I3,Jr,Iw,w3⟩
 rcases tY i n σ3 H3 w3 with⟨stop,qn⟩|⟨go,N,hN,step⟩
 ·refine gG hp (eL (T.done X rfl rfl rfl hc i bH s3 σ3 H3 X.xe I3 (tX Iw) Jr stop) λr s4 fk=>?_)
  obtain⟨hr,I4⟩:=fk
  subst hr
  exact mK ⟨σ3,H3,I4,qn⟩
 ·refine gG hp (eL (T.item X rfl rfl rfl hc i bH s3 σ3 H3 X.xe I3 (tX Iw) Jr go) λr s4 fk=>?_)
  obtain⟨u,hr,h4⟩:=fk
  subst hr
  refine gG hp (eL h4 λ_ s5 fk=>?_)
  obtain⟨x,H5,I5,r5,y5,BS,D0⟩:=fk
  have Mu:=I5.pinned (tX D0) (T.obj _ _ BS)
  refine gG hp (eL (hg _ s5 σ3 H5 x u _ Mu r5 (step x H5 y5)) λ_ s6 fk=>?_)
  obtain⟨σ6,H6,I6,q6⟩:=fk
  refine gG hp (eL (hb _ s6 σ6 H6 _ I6 q6) λf s7 q7=>?_)
  have again:∀{σ7:St} {H7:Hp},Inv X (bH++pv fp s5.heap) σ7 H7 s7->N σ7 H7->∃m,m<n/\∃i σ' H',Inv X bH σ' H' s7/\tn i s7.heap/\(∀b∈fp,H' b=none)/\W i m σ' H':=λ{σ7 H7} I7 n7=>by
   obtain⟨m',hm,w7⟩:=hN σ7 H7 n7
   refine⟨m',hm,i+1,σ7,H7,I7.unpinned,T.keep _ _ _ BS λb hb o e=>(I7.pin (b,o) (bZ _ (bZ _ (ve hb e)))).1,λb hb=>?_,w7⟩
   obtain⟨o,e,d⟩:=T.obj _ _ BS b hb
   exact(I7.pin (b,o) (bZ _ (bZ _ (ve hb e)))).2.1
  cases f with
  |next=>obtain⟨σ7,H7,I7,n7⟩:=q7;exact again I7 n7
  |cont=>obtain⟨σ7,H7,I7,n7⟩:=q7;exact again I7 n7
  |brk=>obtain⟨σ7,H7,I7,q7⟩:=q7;exact⟨σ7,H7,I7.unpinned,q7⟩
  |ret v=>obtain⟨x7,σ7,H7,I7,r7,q7⟩:=q7;exact⟨x7,σ7,H7,I7.unpinned,r7,q7⟩
noncomputable abbrev R2:=V->V->Hp->VK->Prop
noncomputable def jC (X:Cx)(f:bC->bC->yJ bC)(r:R2):Prop :=
 ∀(bH:List (bI×gH)) (s:bP) (σ:St) (H:Hp) (x y:V) (v u:bC) (Q:VK),Inv X bH σ H s->RelV x v->RelV y u->r x y H Q ->
  ce (cr X.prog X.w) X.A (f v u) (EP X bH σ Q) X.xe s
noncomputable def DU (X:Cx)(f:bC->yJ bC)(r:V->Hp->VK->Prop):Prop :=
 ∀(bH:List (bI×gH)) (s:bP) (σ:St) (H:Hp) (x:V) (v:bC) (Q:VK),Inv X bH σ H s->RelV x v->r x H Q ->
  ce (cr X.prog X.w) X.A (f v) (EP X bH σ Q) X.xe s
noncomputable def gB (X:Cx)(f:bC)(r:List V->Hp->VK->Prop):Prop :=
 ∀(bH:List (bI×gH)) (s:bP) (σ:St) (H:Hp) (xs:List V) (us:List bC) (Q:VK),Inv X bH σ H s->c8 xs us->r xs H Q ->
  ce (cr X.prog X.w) X.A (call f us) (EP X bH σ Q) X.xe s
noncomputable def Ez (r:R2)(ta tb:TE):TE:=λσ H Q=>ta σ H λx H1=>tb σ H1 λy H2=>r x y H2 Q
noncomputable def Oi (r:V->Hp->VK->Prop)(ta:TE):TE:=λσ H Q=>ta σ H λx H1=>r x H1 Q
noncomputable def rI (C:Int->Int->Prop)(g:Int->Int->V):R2:=λx y H Q=>∃i j,x=.int i/\y=.int j/\C i j/\Q (g i j) H
noncomputable def sT (g:Int->Int->V):R2:=λx y H Q=>∃i j,x=.int i/\y=.int j/\Q (g i j) H
noncomputable def rU (g:Int->V):V->Hp->VK->Prop:=λx H Q=>∃i,x=.int i/\Q (g i) H
variable {r:R2}
section
variable {a b:Expr}{tc:TE}
theorem AR (ha:PE X a ta)(hb:PE X b tb){R:V->V->Hp->Prop}(I:Inv X bH σ H s)
  (h:ta σ H λx H1=>tb σ H1 λy H2=>R x y H2) {f:bC->bC->yJ bC}
  (hf:∀v u s2 x y H2,Inv X bH σ H2 s2->RelV x v->RelV y u->R x y H2->ce (cr X.prog X.w) X.A (f v u) Q X.xe s2) :
  ce (cr X.prog X.w) X.A (cO a X.env) (λv s₁=>ce (cr X.prog X.w) X.A (cO b X.env) (λu s₂=>ce (cr X.prog X.w) X.A (f v u) Q X.xe s₂) X.xe s₁) X.xe s:=by
 refine eL (ha bH s σ H _ I h) λv s1 fk=>?_
 obtain⟨x,H1,I1,r1,q1⟩:=fk
 refine eL (hb bH s1 σ H1 _ I1 q1) λu s2 fk=>?_
 obtain⟨y,H2,I2,r2,q2⟩:=fk
 exact hf v u s2 x y H2 I2 r1 r2 q2
theorem Ih {op:nB}(ho:jC X (fH op) r)(ha:PE X a ta)(hb:PE X b tb):PE X (.BinOp a op b pos) (Ez r ta tb):=by
 intro bH s σ H Q I h
 exact wpAny_BinOp (AR ha hb I h λv u s2 x y H2 I2 rx ry q=>ho bH s2 σ H2 x y v u Q I2 rx ry q)
theorem UF {op:UnaryOp}{r:V->Hp->VK->Prop}(ho:DU X (unaryOp op) r)(ha:PE X a ta):PE X (.UnaryOp op a pos) (Oi r ta):=by
 intro bH s σ H Q I h
 exact UnaryOp_ (eL (ha bH s σ H _ I h) λv s1 ⟨x,H1,I1,r1,q1⟩=>ho bH s1 σ H1 x v Q I1 r1 q1)
theorem BR {f:bC->bC->yJ bC}{C:Int->Int->Prop}{g:Int->Int->Int}
  (rule:∀(i j:Int) (t u:Tok) (s:bP) (Q:bC->bP->Prop) (E:bC->bP->Prop),C i j->Q (.int (g i j) s.toks) { s with toks:=s.toks+1 }->ce (cr X.prog X.w) X.A (f (.int i t) (.int j u)) Q E s) :
  jC X f (rI C λi j=>.int (g i j)):=by
 intro bH s σ H x y v u Q I rx ry h
 obtain⟨i,j,rfl,rfl,hc,q⟩:=h
 obtain⟨t,rfl⟩:=rx
 obtain⟨t',rfl⟩:=ry
 exact rule i j t t' s _ _ hc ⟨.int (g i j),H,I.tok _,⟨_,rfl⟩,q⟩
theorem C6 {f:bC->bC->yJ bC}{g:Int->Int->Int}
  (rule:∀(i j:Int) (t u:Tok) (s:bP) (Q:bC->bP->Prop) (E:bC->bP->Prop),Q (.int (g i j) s.toks) { s with toks:=s.toks+1 }->ce (cr X.prog X.w) X.A (f (.int i t) (.int j u)) Q E s) :
  jC X f (sT λi j=>.int (g i j)):=by
 intro bH s σ H x y v u Q I rx ry h
 obtain⟨i,j,rfl,rfl,q⟩:=h
 obtain⟨t,rfl⟩:=rx
 obtain⟨t',rfl⟩:=ry
 exact rule i j t t' s _ _ ⟨.int (g i j),H,I.tok _,⟨_,rfl⟩,q⟩
theorem zK {f:bC->bC->yJ bC}{g:Int->Int->Bool}
  (rule:∀(i j:Int) (t u:Tok) (s:bP) (Q:bC->bP->Prop) (E:bC->bP->Prop),Q (.bool (g i j)) s->ce (cr X.prog X.w) X.A (f (.int i t) (.int j u)) Q E s) :
  jC X f (sT λi j=>.bl (g i j)):=by
 intro bH s σ H x y v u Q I rx ry h
 obtain⟨i,j,rfl,rfl,q⟩:=h
 obtain⟨t,rfl⟩:=rx
 obtain⟨t',rfl⟩:=ry
 exact rule i j t t' s _ _ ⟨.bl (g i j),H,I,rfl,q⟩
noncomputable def yK (i j:Int):Prop:=0<=j/\j<=1000000/\i.natAbs<2 ^ 64
noncomputable def AM (i j:Int):Prop:=(-(2 ^ 64)<i/\i<2 ^ 64)\/(-(2 ^ 64)<j/\j<2 ^ 64)
theorem AM.ok {i j:Int}(h:AM i j):IntMulOk i j:=by
 rcases h with⟨h1,h2⟩|⟨h1,h2⟩
 ·exact .of_left (intBits_le_64 h1 h2)
 ·exact .of_right (intBits_le_64 h1 h2)
theorem Pc (k:Nat):(0:Int)<=2 ^ k:=by
 rw[two_pow_cast]
 exact nv _
theorem Ts:jC X (fH .Add) (sT λi j=>.int (i+j)):=C6 λ_ _ _ _ _ _ _ q=>add_int q
theorem Tt:jC X (fH .Sub) (sT λi j=>.int (i-j)):=C6 λ_ _ _ _ _ _ _ q=>sub_int q
theorem Rr:jC X (fH .Mod) (rI (λ_ j=>j≠0) λi j=>.int (i.fmod j)):=BR λ_ _ _ _ _ _ _ hc q=>mod_int' hc q
theorem HM:jC X (fH .Pow) (rI yK λi j=>.int (i ^ j.toNat)):=BR λ_ _ _ _ _ _ _ hc q=>pow_int_small hc.1 hc.2.1 hc.2.2 q
theorem Tu:jC X (fH .LShift) (rI yK λi j=>.int (i*2 ^ j.toNat)):=BR λ_ _ _ _ _ _ _ hc q=>lshift_int_small hc.1 hc.2.1 hc.2.2 q
theorem LG:jC X (fH .RShift) (rI (λ_ j=>0<=j) λi j=>.int (i/2 ^ j.toNat)):=BR λi j _ _ _ _ _ hc q=>
 rshift_int hc (by rw[qC i (Pc _)];exact q)
theorem Ol {f:bC->yJ bC}{g:Int->Int}
  (rule:∀(i:Int) (t:Tok) (s:bP) (Q:bC->bP->Prop) (E:bC->bP->Prop),Q (.int (g i) s.toks) { s with toks:=s.toks+1 }->ce (cr X.prog X.w) X.A (f (.int i t)) Q E s) :
  DU X f (rU λi=>.int (g i)):=by
 intro bH s σ H x v Q I rx h
 obtain⟨i,rfl,q⟩:=h
 obtain⟨t,rfl⟩:=rx
 exact rule i t s _ _ ⟨.int (g i),H,I.tok _,⟨_,rfl⟩,q⟩
theorem Tv:DU X (unaryOp .USub) (rU λi=>.int (-i)):=Ol λ_ _ _ _ _ q=>neg_int q
end
section
variable {a b:Expr}{tc:TE}
theorem LH {Q:VK}{k k':Bool}(I:Inv X bH σ H s)(q:Q (.bl k) H)(e:k=k'):EP X bH σ Q (.bool k') s:=by
 subst e
 exact⟨.bl k,H,I,rfl,q⟩
theorem Mb:jC X (dZ .Lt) (sT λi j=>.bl (decide (i<j))):=zK λ_ _ _ _ _ _ _ q=>lt_int q
theorem UG:jC X (dZ .LtE) (sT λi j=>.bl (decide (i<=j))):=zK λ_ _ _ _ _ _ _ q=>le_int q
theorem Mc:jC X (dZ .Gt) (sT λi j=>.bl (decide (j<i))):=zK λ_ _ _ _ _ _ _ q=>gt_int q
theorem Md:jC X (dZ .GtE) (sT λi j=>.bl (decide (j<=i))):=zK λ_ _ _ _ _ _ _ q=>ge_int q
theorem Tw:jC X (dZ .Is) (λx y H Q=>y=.non/\Q (.bl (decide (x=.non))) H):=by
 intro bH s σ H x y v u Q I rx ry h
 obtain⟨rfl,q⟩:=h
 cases ry
 refine is_none_gen (LH I q ?_)
 cases x<;>first
  |(cases rx;rfl)
  |(obtain⟨t,rfl⟩:=rx;rfl)
theorem jC.or {f:bC->bC->yJ bC}{r':R2}(h:jC X f r)(h':jC X f r'):jC X f (λx y H Q=>r x y H Q\/r' x y H Q):=by
 intro bH s σ H x y v u Q I rx ry q
 rcases q with q|q
 ·exact h bH s σ H x y v u Q I rx ry q
 ·exact h' bH s σ H x y v u Q I rx ry q
theorem f9 (b:Expr)(h:op≠.In:=by decide)(h2:op≠.NotIn:=by decide):dU op b=false:=by
 have e1:(op==qP.In)=false:=by cases op<;>first|rfl|exact absurd rfl h
 have e2:(op==qP.NotIn)=false:=by cases op<;>first|rfl|exact absurd rfl h2
 cases b<;>simp[dU,e1,e2]
theorem K0 (ho:jC X (dZ op) r)(ha:PE X a ta)(hb:PE X b tb)(hm:dU op b=false):PE X (.Compare a [op] [b] pos) (Ez r ta tb):=by
 intro bH s σ H Q I h
 exact wpAny_Compare1 (AR ha hb I h λv u s2 x y H2 I2 rx ry q=>ho bH s2 σ H2 x y v u Q I2 rx ry q) hm
noncomputable def DA (t:TE):TT:=λσ H Q=>t σ H λx H'=>∃k,x=.bl k/\Q k H'
theorem K1 (ho:jC X (dZ op) r)(ha:PE X a ta)(hb:PE X b tb)(hm:dU op b=false):PT X (.Compare a [op] [b] pos) (DA (Ez r ta tb)):=by
 intro bH s σ H Q I h
 refine wpAny_isTrue_Compare1 (eL (ha bH s σ H _ I h) λv s1 ⟨x,H1,I1,r1,q1⟩=>eL (hb bH s1 σ H1 _ I1 q1) λu s2 ⟨y,H2,I2,r2,q2⟩=>
  eL (ho bH s2 σ H2 x y v u _ I2 r1 r2 q2) λc s3 ⟨z,H3,I3,r3,k,e,q3⟩=>?_) hm
 subst e
 cases r3
 exact gM ⟨H3,I3,q3⟩
theorem mP:(sizeLine:Nat)<2 ^ 63:=by rw[el];decide
theorem Pd:jC X (fH .Add) (λx y H Q=>∃i j,x=.str i/\y=.str j/\i.length+j.length<=sizeLine/\Q (.str (i++j)) H):=by
 intro bH s σ H x y v u Q I rx ry h
 obtain⟨i,j,rfl,rfl,hz,q⟩:=h
 obtain⟨t,rfl⟩:=rx
 obtain⟨t',rfl⟩:=ry
 exact add_str (λt' tk=>⟨.str (i++j),H,I.tok _,⟨_,rfl⟩,q⟩) hz
theorem oj {x:V}(r:c8 [x] us):∃u,us=[u]/\RelV x u:=by
 cases r with
 |cons r1 r2=>cases r2;exact⟨_,rfl,r1⟩
theorem vals2 {x:V}(r:c8 [x,y] us):∃u w',us=[u,w']/\RelV x u/\RelV y w':=by
 cases r with
 |cons r1 r2=>
  cases r2 with
  |cons r3 r4=>cases r4;exact⟨_,_,rfl,r1,r3⟩
theorem uf (hc:X.calm=true):gB X (.builtin "max") (λxs H Q=>∃i j,xs=[.int i,.int j]/\Q (.int (if j > i then j else i)) H):=by
 intro bH s σ H xs us Q I r h
 obtain⟨i,j,rfl,q⟩:=h
 obtain⟨u,w',rfl,⟨t,rfl⟩,⟨t',rfl⟩⟩:=vals2 r
 refine max_two_ints (I.ok.hd hc) λh' tk k=>⟨_,H,I.kept k,?_,q⟩
 by_cases hj:j > i
 ·rw[if_pos hj,if_pos hj];exact⟨_,rfl⟩
 ·rw[if_neg hj,if_neg hj];exact⟨_,rfl⟩
theorem PM (hc:X.calm=true):gB X (.builtin "min") (λxs H Q=>∃i j,xs=[.int i,.int j]/\Q (.int (if j<i then j else i)) H):=by
 intro bH s σ H xs us Q I r h
 obtain⟨i,j,rfl,q⟩:=h
 obtain⟨u,w',rfl,⟨t,rfl⟩,⟨t',rfl⟩⟩:=vals2 r
 refine min_two_ints (I.ok.hd hc) λh' tk k=>⟨_,H,I.kept k,?_,q⟩
 by_cases hj:j<i
 ·rw[if_pos hj,if_pos hj];exact⟨_,rfl⟩
 ·rw[if_neg hj,if_neg hj];exact⟨_,rfl⟩
theorem JS:gB X (.type "int") (λxs H Q=>(∃i,xs=[.int i]/\Q (.int i) H)\/∃k,xs=[.bl k]/\Q (.int (if k then 1 else 0)) H):=by
 intro bH s σ H xs us Q I r h
 rcases h with⟨i,rfl,q⟩|⟨k,rfl,q⟩
 ·obtain⟨u,rfl,t,rfl⟩:=oj r
  exact call_int_int ⟨.int i,H,I,⟨_,rfl⟩,q⟩
 ·obtain⟨u,rfl,r1⟩:=oj r
  cases r1
  exact call_int_bool ⟨.int (if k then 1 else 0),H,I.tok _,⟨_,rfl⟩,q⟩
theorem ya:gB X (.type "str") (λxs H Q=>∃i,xs=[.int i]/\i.natAbs.log2<1920/\Q (.str (toString i)) H):=by
 intro bH s σ H xs us Q I r h
 obtain⟨i,rfl,hz,q⟩:=h
 obtain⟨u,rfl,t,rfl⟩:=oj r
 exact PySem.P.str_of_int hz ⟨.str _,H,I.tok _,⟨_,rfl⟩,q⟩
end
structure tw (h:bU)(x dx C:bI)(mA:Str->Option bC):Prop where
 obj:h.get? x=some (fC C dx)
 ns:h.Ns1 dx mA
 ne:dx≠x
variable {dx:bI}{mA:Str->Option bC}
theorem PN (n:h.Ns1 dx mA):∃od,h.get? dx=some od/\∀name,lM name od=some (mA name):=by
 obtain⟨o,es,ep,ho,hd,hk,_,hm⟩:=n
 refine⟨o,ho,λname=>?_⟩
 have e:=hm name
 unfold nsFind findBy at e
 rw[←t3]at e
 unfold lM
 rw[hd]
 dsimp only
 split
 ·rename_i y q
  rw[q]at e
  exact congrArg some e
 ·rename_i q
  rw[q]at e
  have a:es.toList.any (·.refKey)=false:=by
   rw[List.any_eq_false]
   intro y hy
   obtain⟨z,t,FZ⟩:=hk y (Array.mem_toList_iff.mp hy)
   simp[DictEntry.refKey,FZ]
  have a':¬es.toList.any (·.refKey)=true:=by rw[a];exact bV
  rw[if_neg a']
  exact congrArg some e
variable {C:bI}
theorem tw.look {x:bI}(I:tw h x dx C mA):∃od,PySem.W.InstAt h x (fC C dx) C (some od)/\∀name,lM name od=some (mA name) :=
 let⟨od,ho,hl⟩:=PN I.ns
 ⟨od,⟨I.obj,rfl,rfl,ho⟩,hl⟩
variable {R:Result->bP->Prop}{f:bI}{kw:List (Str×bC)}{name:Str}{pl:yJ Bool}
section
variable {prog:dA}{w:cY}{A:c7}{K:bG}{x:bI}{v:bC}
theorem Ru {expr:Bool}(X:K.In s.heap)(I:tw s.heap x dx C mA)(hg:kz K C name=true)(hh:kb K C=true)
  (ha:dD K (.ref C) name=some none) (hv:mA name=some v) (BO:uC v=true) (h:Q v { s with toks:=s.toks+1 }) :
  ce (cr prog w) A (getAttr (.ref x) name expr) Q E s:=by
 obtain⟨od,J,hl⟩:=I.look
 exact PySem.W.get_value X J (l9 hg).1 (PySem.W.findObj_own hh ha rfl (by rw[hl,hv])) BO h
theorem Qx {Q:bC×List bC->bP->Prop}(X:K.In s.heap)(I:tw s.heap x dx C mA)(hg:kz K C name=true)
  (hf:dD K (.ref C) name=some (some (.ref f))) (ht:qG K (.ref f)=true) (hv:mA name=none) (h:Q (.ref f,[.ref x]) s) :
  ce (cr prog w) A (iK (.ref x) name pl) Q E s:=by
 obtain⟨od,J,hl⟩:=I.look
 exact PySem.W.method_fn X J (l9 hg).1 (l9 hg).2 hf (beq_iff_eq.mp ht) (by show(lM name od).map (·.isSome)=some false;rw[hl,hv];rfl) h
theorem Rv {ns:List Str}{Q:Unit->bP->Prop}(X:K.In s.heap)(I:tw s.heap x dx C mA)
  (hs:dD K (.ref C) "__setattr__"=some (some (.builtin "object.__setattr__"))) (hp:sY K C=true) (ht:nY K C name=some none) (hh:kb K C=true)
  (hw:PySem.Within mA ns) (hsz:ns.length<=sizeLine)
  (h:∀h',tw h' x dx C (λy=>if y=name then some v else mA y)->eS dx s.heap h'->Q () { s with heap:=h',toks:=s.toks+2 }) :
  ce (cr prog w) A (setAttr (.ref x) name v) Q E s:=by
 obtain⟨od,J,hl⟩:=I.look
 refine PySem.W.set_plain X J hs (PySem.W.osa_open (s:={ s with toks:=s.toks+1 }) (r:=none) X J hp ht λb=>?_)
 obtain⟨cd,hc,FO⟩:=PySem.W.any_some hh
 have hx:s.heap.get? x=some ⟨.ref C,some dx,.plain,#[]⟩:=I.obj
 refine bD (b9 (bD (bD (wpAny_loadPart hx (bD (PySem.W.Looks.here (s:={ s with toks:=s.toks+1 }) (PySem.W.looks_clsIn X hc) ?_))))))
 rw[FO]
 refine b9 (a:=some dx) (bD (b9 (bD ?_)))
 refine wpAny_nsSet1 (s:={ s with toks:=s.toks+1 }) I.ns λh' Ax qJ=>?_
 obtain⟨oD,Vh,U5,NC,Np,Nm⟩:=Ax.count (PySem.Within.cons name v hw)
 refine bD (wpAny_lookBehind NC (by rw[Np];exact pastItsLine_dict (dC Nm (by rw[bM];omega))) ?_)
 exact b9 (h _ ⟨(qJ.2 _ (Ne.symm I.ne)).trans I.obj,Ax,I.ne⟩ qJ)
theorem Qy {vs:List bC}(X:K.In s.heap)(hm:nW K C=true)
  (hi:dD K (.ref C) "__init__"=some (some (.ref f))) (hf:PySem.W.typeIn K (.ref f)=some (.type "function"))
  (h:mz (cr prog w) (A.under (.builtin "type.__call__" ⟨.ref C::vs,kw⟩)) (.call (.ref f) ⟨.ref (s.heap.objs.size+1)::vs,kw⟩) (PySem.W.InitBack (s.heap.objs.size+1) R)
   { s with heap:=(s.heap.push eh).push (fC C s.heap.objs.size) }) :
  mz (cr prog w) A (.call (.ref C) ⟨vs,kw⟩) R s:=by
 obtain⟨hh,g,d,t,os⟩:=s
 exact PySem.W.make_core (PySem.W.makes_of X hm) (PySem.W.looks_findIn X hi) (λself=>PySem.W.bind_fn X self hf) (.inl rfl) h
end
noncomputable def ky (f:Str)(v:V):List (Str×V)->List (Str×V)
 |[]=>[(f,v)]
 |(g,x)::r=>if g=f then(g,v)::r else(g,x)::ky f v r
theorem j4 (f g:Str)(v:V):∀fs:List (Str×V),(ky f v fs).lookup g=if g=f then some v else fs.lookup g
 |[]=>by
  show i9 g [(f,v)]=_
  by_cases h:g=f
  ·have hb:(g==f)=true:=beq_iff_eq.mpr h
   simp only[i9,hb,if_pos h]
  ·have hb:(g==f)=false:=beq_eq_false_iff_ne.mpr h
   simp only[i9,hb,if_neg h]
 |(k,x)::r=>by
  have ih:=j4 f g v r
  rw[show ky f v ((k,x)::r)=(if k=f then(k,v)::r else(k,x)::ky f v r)from rfl]
  by_cases hk:k=f
  ·rw[if_pos hk]
   by_cases h:g=k
   ·have hb:(g==k)=true:=beq_iff_eq.mpr h
    simp only[i9,hb,if_pos (h.trans hk)]
   ·have hb:(g==k)=false:=beq_eq_false_iff_ne.mpr h
    simp only[i9,hb,if_neg (λe:g=f=>h (e.trans hk.symm))]
  ·rw[if_neg hk]
   by_cases h:g=k
   ·have hb:(g==k)=true:=beq_iff_eq.mpr h
    simp only[i9,hb,if_neg (λe:g=f=>hk (h.symm.trans e))]
   ·have hb:(g==k)=false:=beq_eq_false_iff_ne.mpr h
    simp only[i9,hb]
    exact ih
theorem j5 (f:Str)(v:V):∀fs:List (Str×V),f∈(ky f v fs).map (·.1)/\∀g,g∈fs.map (·.1)->g∈(ky f v fs).map (·.1)
 |[]=>⟨by simp[ky],λg h=>by simp at h⟩
 |(k,x)::r=>by
  obtain⟨i1,i2⟩:=j5 f v r
  rw[show ky f v ((k,x)::r)=(if k=f then(k,v)::r else(k,x)::ky f v r)from rfl]
  by_cases hk:k=f
  ·rw[if_pos hk]
   subst hk
   exact⟨by simp,λg h=>by simpa using h⟩
  ·rw[if_neg hk]
   refine⟨?_,λg h=>?_⟩
   ·rw[cn]
    exact bJ _ i1
   ·rw[cn]at h ⊢
    rcases bL.mp h with e|e
    ·exact bL.mpr (.inl e)
    ·exact bJ _ (i2 g e)
theorem j6 (f:Str)(v:V):∀fs:List (Str×V),(ky f v fs).length<=fs.length+1
 |[]=>by simp[ky]
 |(k,x)::r=>by
  have ih:=j6 f v r
  rw[show ky f v ((k,x)::r)=(if k=f then(k,v)::r else(k,x)::ky f v r)from rfl]
  by_cases hk:k=f
  ·rw[if_pos hk,bM,bM];omega
  ·rw[if_neg hk,bM,bM];omega
theorem m5.some_of {o:Option bC}(r:m5 (some v) o):∃u,o=some u/\RelV v u:=by
 cases o with
 |none=>exact(show False from r).elim
 |some u=>exact⟨u,rfl,r⟩
theorem m5.none_of {o:Option bC}(r:m5 none o):o=none:=by
 cases o with
 |none=>rfl
 |some u=>exact(show False from r).elim
theorem PP (r:RelV v u):uC u=true:=by
 cases v with
 |non=>cases(show u=bC.none from r);rfl
 |bl b=>cases(show u=bC.bool b from r);rfl
 |int i=>obtain⟨t,e⟩:=(show∃t,u=bC.int i t from r);cases e;rfl
 |str x=>obtain⟨t,e⟩:=(show∃t,u=bC.str x t from r);cases e;rfl
 |byt b=>obtain⟨t,e⟩:=(show∃t,u=bC.bytes b t from r);cases e;rfl
 |flt b=>obtain⟨t,e⟩:=(show∃t,u=bC.float b t from r);cases e;rfl
 |ref a=>cases(show u=bC.ref a from r);rfl
 |ty n=>cases(show u=bC.type n from r);rfl
section
variable {w:cY}{fs BG:List (Str×V)}
theorem EO (hok:mU P w H h)(e:H a=some (.ins C dx fs)):∃mA,tw h a dx C mA/\(∀f,m5 (fs.lookup f) (mA f))/\PySem.Within mA (fs.map (·.1))/\fs.length<=1000/\H dx=some (.own a):=by
 obtain⟨d,z,ne,ob,mA,n,r,q⟩:=(show fP P w H h a (.ins C dx fs)from hok a _ e)
 exact⟨mA,⟨ob,n,ne⟩,r,q,z,d⟩
end
structure ma (K:bG)(C:bI):Prop where
 pg:kz K C Str.empty=true
 hd:kb K C=true
 po:sY K C=true
 sa:dD K (.ref C) "__setattr__"=some (some (.builtin "object.__setattr__"))
theorem ma.get {K:bG}(c:ma K C)(f:Str):kz K C f=true:=c.pg
noncomputable def eR (K:bG)(C:bI)(f:Str):Prop:=dD K (.ref C) f=some none
theorem eR.taker {K:bG}{f:Str}(n:eR K C f):nY K C f=some none:=by
 unfold nY
 rw[show dD K (.ref C) f=some none from n]
 rfl
structure nH (K:bG)(C:bI)(m:Str)(f:bI):Prop where
 at_:dD K (.ref C) m=some (some (.ref f))
 fn:qG K (.ref f)=true
 kp:ei K (.ref f)=true
variable {m:Str}
section
variable {fs:List (Str×V)}{f:Str}{A:c7}
theorem JF {b:Bool}(I:Inv X bH σ H s)(e:H a=some (.ins C dx fs))(c:ma X.K C)(n:eR X.K C f)(l:fs.lookup f=some v)
  (h:∀u s',Inv X bH σ H s'->RelV v u->Q u s'):ce (cr X.prog X.w) A (getAttr (.ref a) f b) Q E s:=by
 obtain⟨mA,O,r,_,_,_⟩:=EO I.hok e
 obtain⟨u,hu,ru⟩:=m5.some_of (v:=v) (o:=mA f) (by rw[←l];exact r f)
 exact Ru I.kIn O (c.get f) c.hd n hu (PP ru) (h u _ (I.tok _) ru)
theorem u0 {g:bI}{Q:bC×List bC->bP->Prop}(I:Inv X bH σ H s)(e:H a=some (.ins C dx fs))(c:ma X.K C)(k:nH X.K C m g)(l:fs.lookup m=none)
  (h:Q (.ref g,[.ref a]) s):ce (cr X.prog X.w) A (iK (.ref a) m pl) Q E s:=by
 obtain⟨mA,O,r,_,_,_⟩:=EO I.hok e
 have hn:mA m=none:=m5.none_of (by rw[←l];exact r m)
 exact Qx I.kIn O (c.get m) k.at_ k.fn hn h
theorem JG {Q:Unit->bP->Prop}(I:Inv X bH σ H s)(e:H a=some (.ins C dx fs))(c:ma X.K C)(n:eR X.K C f)(hl:fs.length<1000)(ry:RelV y u)
  (h:∀s',Inv X bH σ (fM H a (.ins C dx (ky f y fs))) s'->Q () s'):ce (cr X.prog X.w) A (setAttr (.ref a) f u) Q E s:=by
 obtain⟨mA,O,r,wi,_,ho⟩:=EO I.hok e
 have hz:(fs.map (·.1)).length<=sizeLine:=by rw[bN,el];omega
 refine Rv I.kIn O c.sa c.po n.taker c.hd wi hz λh' O' sb=>h _ ?_
 have hd:∃o,h'.get? dx=some o:=let⟨o,_,_,e',_⟩:=O'.ns;⟨o,e'⟩
 refine I.write (x:=a) (e:=dx) (by rw[e];exact True.intro) (.inr ho) (λb q hb z=>(sb.2 b hb).trans z) hd ?_
 refine⟨by rw[zp O.ne];exact ho,?_,O.ne,O'.obj,_,O'.ns,λg=>?_,λg hg=>?_⟩
 ·have:=j6 f y fs;omega
 ·show m5 ((ky f y fs).lookup g) (if g=f then some u else mA g)
  rw[j4]
  by_cases q:g=f
  ·rw[if_pos q,if_pos q];exact ry
  ·rw[if_neg q,if_neg q];exact r g
 ·by_cases q:g=f
  ·rw[q];exact(j5 f y fs).1
  ·refine(j5 f y fs).2 g (wi g λz=>hg ?_)
   show(if g=f then some u else mA g)=none
   rw[if_neg q];exact z
theorem Inv.made (I:Inv X bH σ H s):Inv X bH σ (fM (fM H s.heap.objs.size (.own (s.heap.objs.size+1))) (s.heap.objs.size+1) (.ins C s.heap.objs.size []))
  { s with heap:=(s.heap.push eh).push (fC C s.heap.objs.size) }:=by
 have e1:(s.heap.push eh).get? s.heap.objs.size=some eh:=bX s.heap rfl
 have e2:((s.heap.push eh).push (fC C s.heap.objs.size)).get? (s.heap.objs.size+1)=some (fC C s.heap.objs.size):=by
  have:=bX (s.heap.push eh) (o:=fC C s.heap.objs.size) rfl
  rwa[dE]at this
 have e3:(s.heap.push eh).Ns s.heap.objs.size (λ_=>none):=⟨eh,#[],_,e1,rfl,(λe he=>absurd he (by simp)),λ_=>rfl⟩
 have I1:=I.laid (a:=s.heap.objs.size) (o:=.own (s.heap.objs.size+1)) (h':=s.heap.push eh) (t':=s.toks) (λb u q=>bE _ q) (bY _) ⟨_,e1⟩
 refine I1.laid (a:=s.heap.objs.size+1) (o:=.ins C s.heap.objs.size []) (t':=s.toks) (λb u q=>bE _ q) (Nat.le_of_eq (dE _ _)) ?_
 have ne:s.heap.objs.size≠s.heap.objs.size+1:=cy (lh _)
 refine⟨by rw[zp ne,zw],eY _,ne,e2,λ_=>none,(bU.Ns1.of_empty e3).at λo q=>bE _ q,λ_=>True.intro,λy hy=>absurd rfl hy⟩
theorem Rw {prog:dA}{w:cY}{env:Env}{f:Str}(hb:fB e f env (cO e env)=cO e env)
  (h:ce (cr prog w) A (cO e env) (λo s₁=>ce (cr prog w) A (getAttr o f true) Q E s₁) E s):ce (cr prog w) A (cO (.Attribute e f pos) env) Q E s :=
 Attribute_any_ h (by rw[arm_eval_Attribute,hb])
end
noncomputable def G0 (K:bG)(ta:TE)(f:Str):TE:=λσ H Q=>ta σ H λx H1=>∃a C dx fs v,x=.ref a/\H1 a=some (.ins C dx fs)/\ma K C/\eR K C f/\fs.lookup f=some v/\Q v H1
noncomputable def GU (K:bG)(ta tv:TE)(f:Str):TS:=λD σ H=>tv σ H λy H1=>ta σ H1 λx H2=>∃a C dx fs,x=.ref a/\H2 a=some (.ins C dx fs)/\ma K C/\eR K C f/\fs.length<1000 /\
 D.nx σ (fM H2 a (.ins C dx (ky f y fs)))
noncomputable def B5 (X:Cx)(op:nB)(rd:V->V->Hp->VK->Prop):Prop :=
 ∀(bH:List (bI×gH)) (s:bP) (σ:St) (H:Hp) (x y:V) (u v:bC) (Q:VK),Inv X bH σ H s->RelV x u->RelV y v->rd x y H Q->ce (cr X.prog X.w) X.A (inplaceOp op u v) (EP X bH σ Q) X.xe s
noncomputable def zO (K:bG)(ta tv:TE)(rd:V->V->Hp->VK->Prop)(f:Str):TS:=λD σ H=>ta σ H λx H1=>∃a C dx fs v,x=.ref a/\H1 a=some (.ins C dx fs)/\ma K C/\eR K C f/\fs.lookup f=some v /\
 tv σ H1 λy H2=>rd v y H2 λz H3=>∃Cg BG,H3 a=some (.ins C Cg BG)/\BG.length<1000/\D.nx σ (fM H3 a (.ins C Cg (ky f z BG)))
variable {fT:mZ}{value:Expr}
section
variable {f:Str}{tv:TE}
theorem Tx (he:PE X e ta)(hb:fB e f X.env (cO e X.env)=cO e X.env):PE X (.Attribute e f pos) (G0 X.K ta f):=by
 intro bH s σ H Q I h
 refine Rw hb (eL (he bH s σ H _ I h) λu s1 fk=>?_)
 obtain⟨x,H1,I1,rx,a,C,dx,fs,v,ex,ea,c,n,l,q⟩:=fk
 subst ex
 obtain rfl:u=bC.ref a:=rx
 exact JF I1 ea c n l λu' s2 I2 ru=>⟨v,H1,I2,ru,q⟩
theorem LI (ha:PE X o ta)(hv:PE X value tv)(hs:eI value (some (.Attribute o f pos')) pos.line X.env=pure false):PS X (.Assign [.Attribute o f pos'] value pos) (GU X.K ta tv f):=by
 intro bH s σ H D I h
 refine plainObj_wpAny_Assign_Attribute (eL (hv bH s σ H _ I h) λu s1 ⟨y,H1,I1,ry,q⟩=>eL (ha bH s1 σ H1 _ I1 q) λov s2 ⟨x,H2,I2,rx,a,C,dx,fs,ex,ea,c,n,l,q2⟩=>?_) hs
 subst ex
 obtain rfl:ov=bC.ref a:=rx
 exact JG I2 ea c n l ry λs3 I3=>⟨σ,_,I3,q2⟩
theorem PQ {op:nB}{rd:V->V->Hp->VK->Prop}(ha:PE X o ta)(hv:PE X value tv)(hop:B5 X op rd):PS X (.AugAssign (.Attribute o f mQ) op value pos) (zO X.K ta tv rd f):=by
 intro bH s σ H D I h
 refine wpAny_AugAssign_AttributeAny (eL (ha bH s σ H _ I h) λov s1 fk=>?_)
 obtain⟨x,H1,I1,rx,a,C,dx,fs,v,ex,ea,c,n,l,q⟩:=fk
 subst ex
 obtain rfl:ov=bC.ref a:=rx
 refine JF I1 ea c n l λu s2 I2 ru=>eL (hv bH s2 σ H1 _ I2 q) λw3 s3 ⟨y,H2,I3,ry,q3⟩=>eL (hop bH s3 σ H2 v y u w3 _ I3 ru ry q3) λw4 s4 fk=>?_
 obtain⟨z,H3,I4,rz,Cg,BG,ME,l',q4⟩:=fk
 exact JG I4 ME c n l' rz λs5 I5=>⟨σ,_,I5,q4⟩
noncomputable def zL:V->V->Hp->VK->Prop:=λx y H Q=>∃i j,x=.int i/\y=.int j/\Q (.int (i+j)) H
theorem Tz:B5 X .Add zL:=by
 rintro bH s σ H x y u v Q I rx ry ⟨i,j,rfl,rfl,q⟩
 obtain⟨t,rfl⟩:=(show∃t,u=bC.int i t from rx)
 obtain⟨t',rfl⟩:=(show∃t',v=bC.int j t' from ry)
 exact PyProof.Rows.iadd_int ⟨.int (i+j),H,I.tok _,⟨_,rfl⟩,q⟩
theorem VS {args:List Expr}(he:PE X e te)(I:Inv X bH σ H s)
  (h:te σ H λx H1=>∃a C dx fs g,x=.ref a/\H1 a=some (.ins C dx fs)/\ma X.K C/\nH X.K C m g/\fs.lookup m=none /\
   ∀s1,Inv X bH σ H1 s1->ce (cr X.prog X.w) X.A (jY pos (.ref g) [.ref a] (dq pos (bK args X.env)) (gk pos (ek [] X.env))) Q X.xe s1)
  (ht:cO (.Call (.Attribute e m fT) args [] pos) X.env=(do
   let ov ← cO e X.env
   jO fT.atName
   let(f,first) ← gh [ov] (iK ov m pl)
   jY pos f first (dq pos (bK args X.env)) (gk pos (ek [] X.env)))) :
  ce (cr X.prog X.w) X.A (cO (.Call (.Attribute e m fT) args [] pos) X.env) Q X.xe s:=by
 refine iE (pl:=pl) (eL (he bH s σ H _ I h) λu s1 ⟨x,H1,I1,rx,a,C,dx,fs,g,ex,ea,c,k,l,q⟩=>?_) ht
 subst ex
 obtain rfl:u=bC.ref a:=rx
 exact u0 I1 ea c k l (q s1 I1)
end
section
variable {A:c7}{c:bC}{b:Bool}
inductive mL (K:bG)(H:Hp):V->bC->Prop where
 |non:mL K H .non (.type "NoneType")
 |bl (x:Bool):mL K H (.bl x) (.type "bool")
 |int (i:Int):mL K H (.int i) (.type "int")
 |str (x:Str):mL K H (.str x) (.type "str")
 |flt (x:UInt64):mL K H (.flt x) (.type "float")
 |lst {a:bI} {xs:List V} (e:H a=some (.lst xs)):mL K H (.ref a) (.type "list")
 |frz {a:bI} {o:gH} {xs:List V} (e:H a=some (.frz o (.lst xs))):mL K H (.ref a) (.type "list")
 |tup {a:bI} {xs:List V} (e:H a=some (.tup xs)):mL K H (.ref a) (.type "tuple")
 |dK {a:bI} {dS:List (gN×V)} (e:H a=some (.dK dS)):mL K H (.ref a) (.type "dict")
 |dT {a:bI} {dS:List (List gN×V)} (e:H a=some (.dT dS)):mL K H (.ref a) (.type "dict")
 |ins {a C dx:bI} {fs:List (Str×V)} (e:H a=some (.ins C dx fs)) (cl:ma K C) (ha:dD K (.ref C) "__class__"=some (some (.builtin "object.__class__")))
   (hn:gx K (.builtin "object.__class__") "__get__"=some (some (.builtin "getset_descriptor.__get__"))) (Ja:nZ K (.builtin "object.__class__")=some true)
   (hm:mq K C (.type "object")=some true):mL K H (.ref a) (.ref C)
theorem JT {x:V}{t:bC}(I:Inv X bH σ H s)(rx:RelV x u)(ty:mL X.K H x t)(e:eX X.K t c=some b)(h:∀tk,Q (.bool b) { s with toks:=tk }) :
  ce (cr X.prog X.w) A (call (.builtin "isinstance") [u,c]) Q E s:=by
 cases ty with
 |non=>cases(show u=bC.none from rx);exact dL PySem.W.kitx_none I.kIn True.intro e (λz=>nomatch z) h
 |bl y=>cases(show u=bC.bool y from rx);exact dL PySem.W.kitx_bool I.kIn True.intro e (λz=>nomatch z) h
 |int i=>obtain⟨t,q⟩:=(show∃t,u=bC.int i t from rx);cases q;exact dL PySem.W.kitx_int I.kIn True.intro e (λz=>nomatch z) h
 |str y=>obtain⟨t,q⟩:=(show∃t,u=bC.str y t from rx);cases q;exact dL PySem.W.kitx_str I.kIn True.intro e (λz=>nomatch z) h
 |flt y=>obtain⟨t,q⟩:=(show∃t,u=bC.float y t from rx);cases q;exact dL PySem.W.kitx_float I.kIn True.intro e (λz=>nomatch z) h
 |@lst a xs ea=>
  cases(show u=bC.ref a from rx)
  obtain⟨_,_,n,_,h1⟩:=(show fP X.prog X.w H s.heap a (.lst xs)from I.hok a _ ea)
  exact dL mR I.kIn ⟨_,h1,rfl⟩ e (λz=>nomatch z) h
 |@frz a ob xs ea=>
  cases(show u=bC.ref a from rx)
  obtain⟨_,_,_,n,_,h1⟩:=(show fP X.prog X.w H s.heap a (.frz ob (.lst xs))from I.hok a _ ea)
  exact dL mR I.kIn ⟨_,h1,rfl⟩ e (λz=>nomatch z) h
 |@tup a xs ea=>
  cases(show u=bC.ref a from rx)
  obtain⟨_,_,_,p⟩:=(show fP X.prog X.w H s.heap a (.tup xs)from I.hok a _ ea)
  obtain⟨o,h1,h2,_⟩:=p
  exact dL PySem.W.kitx_tuple I.kIn ⟨o,h1,h2⟩ e (λz=>nomatch z) h
 |@dK a dS ea=>
  cases(show u=bC.ref a from rx)
  obtain⟨_,_,vs,_,p⟩:=(show fP X.prog X.w H s.heap a (.dK dS)from I.hok a _ ea)
  obtain⟨o,es,ep,h1,h2,_⟩:=p
  exact dL sX I.kIn ⟨o,h1,h2.1⟩ e (λz=>nomatch z) h
 |@dT a dS ea=>
  cases(show u=bC.ref a from rx)
  obtain⟨_,_,xs,_,o,es,ep,h1,h2,_⟩:=(show fP X.prog X.w H s.heap a (.dT dS)from I.hok a _ ea)
  exact dL sX I.kIn ⟨o,h1,h2.1⟩ e (λz=>nomatch z) h
 |@ins a C dx fs ea cl ha hn Ja hm=>
  cases(show u=bC.ref a from rx)
  obtain⟨mA,O,_⟩:=EO I.hok ea
  obtain⟨od,J,_⟩:=O.look
  exact dL (PySem.W.kitx_own (cl.get _) cl.hd ha hn Ja hm) I.kIn J e (λz=>nomatch z) h
end
structure eG (k:Nat)(A:c7):Prop where
 hd:A.handled=none
 dp:A.depth+3*k+5<recursionLimit
 un:A.units+16*k+200<ox
 gd:A.guards=some []
theorem eG.mono {k:Nat}{A:c7}(r:eG k A)(h:j<=k):eG j A:=⟨r.hd,by have:=r.dp;omega,by have:=r.un;omega,r.gd⟩
theorem eG.deeper {k:Nat}{A:c7}(r:eG (k+1) A)(env:Env):eG k (A.deeper env) :=
 ⟨r.hd,by have:=r.dp;show A.depth+1+3*k+5<_;omega,by have:=r.un;show A.units+3+16*k+200<_;omega,r.gd⟩
theorem Pe {A:c7}:(A.under (.builtin "type.__call__" ⟨.ref C::us,kw⟩)).depth=A.depth+1:=by
 first|rfl|simp[c7.under,sP.weight,sP.isCreation,sP.isGuard,sP.isCaller,sP.frames,sP.isFrame,guardIds]
theorem Pf {A:c7}:(A.under (.builtin "type.__call__" ⟨.ref C::us,kw⟩)).units=A.units+1:=by
 first|rfl|simp[c7.under,sP.cUnits,sP.frames,sP.isFrame]
theorem OZ {A:c7}:(A.under (.builtin "type.__call__" ⟨.ref C::us,kw⟩)).guards=A.guards:=by
 first|rfl|simp[c7.under,sP.guards,sP.isGuard,guardIds,pushGuards]
theorem eG.make {k:Nat}{A:c7}(r:eG (k+1) A)(C:bI)(us:List bC)(kw:List (Str×bC)):eG k (A.under (.builtin "type.__call__" ⟨.ref C::us,kw⟩)) :=
 ⟨r.hd,by have:=r.dp;rw[Pe];omega,by have:=r.un;rw[Pf];omega,by rw[OZ];exact r.gd⟩
theorem eG.depth {k:Nat}{A:c7}(r:eG k A):A.depth<recursionLimit:=by have:=r.dp;omega
theorem eG.units {k:Nat}{A:c7}(r:eG k A):A.units+64<ox:=by have:=r.un;omega
noncomputable def Br:TA:=λ_ H Q=>Q [] H
noncomputable def Dv (ta:TE)(tr:TA):TA:=λσ H Q=>ta σ H λx H1=>tr σ H1 λxs H2=>Q (x::xs) H2
section
variable {t:TA}
theorem ug:PA X [] Br:=λ_ _ _ _ H Q I h=>Calls.spliced_nil ⟨[],H,I,.nil,h⟩
theorem yw (ha:PE X e te)(hr:PA X es t)(hs:bK (e::es) X.env=(false,cO e X.env)::bK es X.env:=by rfl):PA X (e::es) (Dv te t):=by
 intro pos bH s σ H Q I h
 rw[hs]
 show ce _ _ (spliced ((false,cO e X.env)::dq pos (bK es X.env))) _ _ s
 refine Calls.spliced_cons (eL (ha bH s σ H _ I h) λu s1 fk=>?_)
 obtain⟨x,H1,I1,r1,q1⟩:=fk
 exact eL (hr pos bH s1 σ H1 _ I1 q1) λus s2 ⟨xs,H2,I2,r2,q2⟩=>⟨x::xs,H2,I2,.cons r1 r2,q2⟩
noncomputable def Ha (t:TA):TE:=λσ H Q=>t σ H λxs H1=>xs.length<=sizeLine/\∀p,H1 p=none->Q (.ref p) (fM H1 p (.tup xs))
noncomputable def G4 (t:TA):TE:=λσ H Q=>t σ H λxs H1=>xs.length<=sizeLine/\∀p,H1 p=none->Q (.ref p) (fM H1 p (.lst xs))
theorem TB {x1}(h:PA X es t):PE X (.Tuple es x1 pos) (Ha t):=by
 intro bH s σ H Q I hq
 refine wpAny_Tuple_spliced (eL (h pos bH s σ H _ I hq) λus s1 ⟨xs,H1,I1,r,z,q⟩=>⟨by rw[←r.length];exact z,?_⟩)
 have hf:H1 s1.heap.objs.size=none:=I1.hok.fresh (bY _)
 refine⟨.ref s1.heap.objs.size,fM H1 s1.heap.objs.size (.tup xs),I1.laid (t':=s1.toks) (λb u e=>bE _ e) (bY _) ?_,rfl,q _ hf⟩
 exact⟨z,us,r,⟨_,bX _ rfl,rfl,_,rfl⟩⟩
theorem TC (h:PA X es t):PE X (.List es pos) (G4 t):=by
 intro bH s σ H Q I hq
 refine wpAny_List_spliced (eL (h pos bH s σ H _ I hq) λus s1 ⟨xs,H1,I1,r,z,q⟩=>⟨by rw[←r.length];exact z,?_⟩)
 have hf:H1 s1.heap.objs.size=none:=I1.hok.fresh (bY _)
 refine⟨.ref s1.heap.objs.size,fM H1 s1.heap.objs.size (.lst xs),I1.laid (t':=s1.toks) (λb u e=>bE _ e) (bY _) ?_,rfl,q _ hf⟩
 exact⟨z,us,0,r,bX _ rfl⟩
end
noncomputable abbrev Sp:=List V->Hp->VK->XK->Prop
noncomputable abbrev xP:=List Env->Hp->bP->XK->bC->bP->Prop
structure sZ (P:dA)(w:cY)(K:bG)(mg:Str->Option bC)(base:bU)(A:c7)(outer:List Env)(s:bP)(H:Hp):Prop where
 frames:A.frames=some outer
 mod:Mod K mg base
 bs:∀b o,base.get? b=some o->s.heap.get? b=some o/\H b=none
 bsz:base.objs.size<=s.heap.objs.size
 funs:s.heap.FunFrames base outer
 frf:∀b∈wN outer,H b=none
 hok:mU P w H s.heap
 bare:AllBare s.gens
noncomputable def CE (outer:List Env)(P:dA)(w:cY)(H:Hp)(s:bP)(Q:VK)(u:bC)(s':bP):Prop :=
 ∃v H',s'.os=s.os/\AllBare s'.gens/\Un (wN outer) [] H H' s.heap s'.heap/\mU P w H' s'.heap/\RelV v u/\Q v H'
noncomputable def CR (CX:xP)(outer:List Env)(P:dA)(w:cY)(H:Hp)(s:bP)(Q:VK)(E:XK)(r:Result)(s':bP):Prop :=
 match r with
 |.ok (.ret u)=>CE outer P w H s Q u s'
 |.ok _=>False
 |.error e=>CX outer H s E e s'
structure dm (P:dA)(w:cY)(K:bG)(mg:Str->Option bC)(base:bU)(CX:xP)(k:Nat)(f:bI)(fd:bW)(ps:List Str)(sp:Sp):Prop where
 len:∀vs H Q E,sp vs H Q E->vs.length=ps.length
 run:∀(A:c7) (outer:List Env) (s:bP) (H:Hp) (args:Args) (us:List bC) (vs:List V) (Q:VK) (E:XK),eG k A->sZ P w K mg base A outer s H->pJ s fd args (ps.zip us)->c8 vs us->sp vs H Q E ->
  mz (cr P w) A (.call (.ref f) args) (CR CX outer P w H s Q E) s
theorem sZ.make {w:cY}{K:bG}{mg:Str->Option bC}{base:bU}{A:c7}{outer:List Env}(e:sZ P w K mg base A outer s H)(C:bI)(us:List bC)(kw:List (Str×bC)) :
  sZ P w K mg base (A.under (.builtin "type.__call__" ⟨.ref C::us,kw⟩)) outer s H:=⟨by first|exact e.frames|(simpa[c7.under,sP.envs,sP.isFrame,pushEnvs]using e.frames),e.mod,e.bs,e.bsz,e.funs,e.frf,e.hok,e.bare⟩
theorem Inv.env0 (I:Inv X bH σ H s):sZ X.prog X.w X.K X.mg X.base X.A X.stack s H :=
 ⟨I.ok.frames,I.ok.mod,I.bs,dC I.ok.bsz I.sz,I.stack,I.stkFree,I.hok,I.bare⟩
theorem Inv.after {Q:VK}(I:Inv X bH σ H s)(h:CE X.stack X.prog X.w H s Q u s'):EP X bH σ Q u s':=by
 obtain⟨v,H',os,bare,un,hok,r,q⟩:=h
 obtain⟨hh,g,d,t,NX⟩:=s'
 obtain rfl:NX=s.os:=os
 exact⟨v,H',I.call (h':=hh) (g':=g) (d':=d) (t':=t) (ch:=[]) un hok bare (λb z=>absurd z (by simp)),r,q⟩
noncomputable def AH (sp:Sp)(kF:List V)(E:XK)(t:TA):TE:=λσ H Q=>t σ H λvs H1=>sp (vs++kF) H1 Q E
noncomputable def AK (C:bI)(m:Str)(sp:Sp)(kF:List V)(E:XK)(ta:TE)(t:TA):TE:=λσ H Q=>ta σ H λx H1=>∃a dx fs,x=.ref a/\H1 a=some (.ins C dx fs)/\fs.lookup m=none /\
 t σ H1 λvs H2=>sp (x::(vs++kF)) H2 Q E
noncomputable def AJ (C:bI)(sp:Sp)(kF:List V)(E:XK)(t:TA):TE:=λσ H Q=>t σ H λvs H1=>∀x dx,H1 x=none->H1 dx=none->dx≠x ->
 sp (.ref x::(vs++kF)) (fM (fM H1 dx (.own x)) x (.ins C dx [])) (λv H2=>v=.non/\Q (.ref x) H2) E
noncomputable def fO (K:bG)(fd:bW)(ps:List Str)(ds:List bC):Prop :=
 ∀(s:bP) (us:List bC),K.In s.heap->(us++ds).length=ps.length->pJ s fd ⟨us,[]⟩ (ps.zip (us++ds))
variable {fd:bW}{ps:List Str}
theorem fO.all {K:bG}(h:∀us:List bC,us.length=ps.length->bindArgs fd ⟨us,[]⟩=pure (ps.zip us)):fO K fd ps []:=λs us _ hl=>by
 rw[cV]at hl ⊢
 exact .of_eq (h us hl)
noncomputable def kx (CX:xP)(X:Cx)(E:XK):Prop:=∀(bH:List (bI×gH)) (σ:St) (H:Hp) (s:bP) (e:bC) (s':bP),Inv X bH σ H s->CX X.stack H s E e s'->X.xe e s'
variable {CX:xP}{ds:List bC}{kF:List V}{sp:Sp}
section
variable {k:Nat}{E:XK}{t:TA}
theorem DE {Q:VK}{vs:List V}(F:dm X.prog X.w X.K X.mg X.base CX k f fd ps sp)(hr:eG k X.A)(hb:fO X.K fd ps ds)(hd:c8 kF ds)(hx:kx CX X E)
  (I:Inv X bH σ H s) (r:c8 vs us) (h:sp (vs++kF) H Q E):ce (cr X.prog X.w) X.A (call (.ref f) us) (EP X bH σ Q) X.xe s:=by
 have r2:c8 (vs++kF) (us++ds):=r.append hd
 have hl:(us++ds).length=ps.length:=by rw[←r2.length];exact F.len _ _ _ _ h
 refine wpAny_call (pL (F.run X.A X.stack s H ⟨us,[]⟩ (us++ds) (vs++kF) Q E hr I.env0 (hb s us I.kIn hl) r2 h) λr s' hq=>?_)
 cases r with
 |error e=>exact hx bH σ H s e s' I hq
 |ok fl=>
  cases fl with
  |ret u=>exact I.after hq
  |next=>exact False.elim hq
  |brk=>exact False.elim hq
  |cont=>exact False.elim hq
theorem K2 (F:dm X.prog X.w X.K X.mg X.base CX k f fd ps sp)(hr:eG k X.A)(hg:Gl X x)(hm:X.mg x=some (.ref f))(hk:ei X.K (.ref f)=true)(hb:fO X.K fd ps ds)(hd:c8 kF ds)(hx:kx CX X E)
  (ha:PA X (e::es) t) (lV:(x==("__debug__":Str))=false:=by decide) (he:bK (e::es) X.env=(false,cO e X.env)::bK es X.env:=by rfl) (jM:(dq pos (bK es X.env)).any (·.1)=false:=by rfl) :
  PE X (.Call (.Name x p) (e::es) [] pos) (AH sp kF E t):=by
 intro bH s σ H Q I h
 refine iH (wo I hg hm ?_ lV)
 refine gZ (h₀:=X.base) I.ok.mod.kin hk (eL (ha pos bH s σ H _ I h) λus s1 ⟨vs,H1,I1,r,q⟩=>⟨I1.kIn,?_⟩) he jM
 exact DE F hr hb hd hx I1 r q
theorem K3 (he:PE X o ta)(c:ma X.K C)(hm:nH X.K C m f)(F:dm X.prog X.w X.K X.mg X.base CX k f fd ps sp)(hr:eG k X.A)(hb:fO X.K fd ps ds)(hd:c8 kF ds)(hx:kx CX X E)(ha:PA X (e::es) t)
  (mj:bK (e::es) X.env=(false,cO e X.env)::bK es X.env:=by rfl) (jM:(dq pos (bK es X.env)).any (·.1)=false:=by rfl)
  (ht:cO (.Call (.Attribute o m fT) (e::es) [] pos) X.env=(do
   let ov ← cO o X.env
   jO fT.atName
   let(f,first) ← gh [ov] (iK ov m pl)
   jY pos f first (dq pos (bK (e::es) X.env)) (gk pos (ek [] X.env))):=by rfl) :
  PE X (.Call (.Attribute o m fT) (e::es) [] pos) (AK C m sp kF E ta t):=by
 intro bH s σ H Q I h
 refine iE (pl:=pl) (eL (he bH s σ H _ I h) λu s1 ⟨x,H1,I1,rx,a,dx,fs,ex,ea,l,q⟩=>?_) ht
 subst ex
 obtain rfl:u=bC.ref a:=rx
 refine u0 I1 ea c hm l ?_
 refine gZ (first:=[.ref a]) (h₀:=X.base) I.ok.mod.kin hm.kp (eL (ha pos bH s1 σ H1 _ I1 q) λus s2 ⟨vs,H2,I2,r,q2⟩=>⟨I2.kIn,?_⟩) mj jM
 exact DE (us:=.ref a::us) (vs:=.ref a::vs) F hr hb hd hx I2 (.cons rfl r) q2
theorem Qz (he:PE X o ta)(c:ma X.K C)(hm:nH X.K C m f)(F:dm X.prog X.w X.K X.mg X.base CX k f fd ps sp)(hr:eG k X.A)(hb:fO X.K fd ps ds)(hd:c8 kF ds)(hx:kx CX X E)
  (ht:cO (.Call (.Attribute o m fT) [] [] pos) X.env=(do
   let ov ← cO o X.env
   jO fT.atName
   let(f,first) ← gh [ov] (iK ov m pl)
   jY pos f first (dq pos (bK [] X.env)) (gk pos (ek [] X.env))):=by rfl) :
  PE X (.Call (.Attribute o m fT) [] [] pos) (AK C m sp kF E ta Br):=by
 intro bH s σ H Q I h
 refine iE (pl:=pl) (eL (he bH s σ H _ I h) λu s1 ⟨x,H1,I1,rx,a,dx,fs,ex,ea,l,q⟩=>?_) ht
 subst ex
 obtain rfl:u=bC.ref a:=rx
 refine u0 I1 ea c hm l ?_
 exact rV (first:=[.ref a]) I1.kIn hm.kp (DE (us:=[.ref a]) (vs:=[.ref a]) F hr hb hd hx I1 (.cons rfl .nil) q)
structure Mk (K:bG)(C f:bI):Prop where
 makes:nW K C=true
 init:dD K (.ref C) "__init__"=some (some (.ref f))
 fn:qG K (.ref f)=true
 kp:ei K (.ref C)=true
theorem Kt {Q:VK}{vs:List V}(M:Mk X.K C f)(F:dm X.prog X.w X.K X.mg X.base CX k f fd ps sp)(hr:eG (k+1) X.A)(hb:fO X.K fd ps ds)(hd:c8 kF ds)
  (hx:kx CX X E) (I:Inv X bH σ H s) (r:c8 vs us)
  (h:∀x dx,H x=none->H dx=none->dx≠x->sp (.ref x::(vs++kF)) (fM (fM H dx (.own x)) x (.ins C dx [])) (λv H2=>v=.non/\Q (.ref x) H2) E) :
  ce (cr X.prog X.w) X.A (call (.ref C) us) (EP X bH σ Q) X.xe s:=by
 have hq:=h (s.heap.objs.size+1) s.heap.objs.size (I.hok.fresh (t5 _)) (I.hok.fresh (bY _)) (cy (lh _))
 have I2:=Inv.made (C:=C) I
 have r2:c8 (V.ref (s.heap.objs.size+1)::(vs++kF)) (bC.ref (s.heap.objs.size+1)::(us++ds)):=.cons rfl (r.append hd)
 have hl:(bC.ref (s.heap.objs.size+1)::us++ds).length=ps.length:=by
  have e:=r2.length
  rw[F.len _ _ _ _ hq]at e
  exact e.symm
 refine wpAny_call (Qy (f:=f) I.kIn M.makes M.init (beq_iff_eq.mp M.fn) (pL (F.run _ X.stack _ _ ⟨bC.ref (s.heap.objs.size+1)::us,[]⟩ (bC.ref (s.heap.objs.size+1)::(us++ds)) _ _ E (hr.make C us [])
  (I2.env0.make C us []) (hb _ (bC.ref (s.heap.objs.size+1)::us) I2.kIn hl) r2 hq) λr s' qY=>?_))
 cases r with
 |error e=>exact hx bH σ _ _ e s' I2 qY
 |ok fl=>
  cases fl with
  |ret u=>
   obtain⟨v,H',I3,rv,ev,q3⟩:=I2.after qY
   subst ev
   exact⟨rv,⟨V.ref (s.heap.objs.size+1),H',I3,rfl,q3⟩⟩
  |next=>exact False.elim qY
  |brk=>exact False.elim qY
  |cont=>exact False.elim qY
theorem Rx (M:Mk X.K C f)(F:dm X.prog X.w X.K X.mg X.base CX k f fd ps sp)(hr:eG (k+1) X.A)(hg:Gl X x)(hm:X.mg x=some (.ref C))(hb:fO X.K fd ps ds)(hd:c8 kF ds)(hx:kx CX X E)
  (ha:PA X (e::es) t) (lV:(x==("__debug__":Str))=false:=by decide) (he:bK (e::es) X.env=(false,cO e X.env)::bK es X.env:=by rfl) (jM:(dq pos (bK es X.env)).any (·.1)=false:=by rfl) :
  PE X (.Call (.Name x p) (e::es) [] pos) (AJ C sp kF E t):=by
 intro bH s σ H Q I h
 refine iH (wo I hg hm ?_ lV)
 refine gZ (h₀:=X.base) I.ok.mod.kin M.kp (eL (ha pos bH s σ H _ I h) λus s1 ⟨vs,H1,I1,r,q⟩=>⟨I1.kIn,?_⟩) he jM
 exact Kt M F hr hb hd hx I1 r q
theorem QA (M:Mk X.K C f)(F:dm X.prog X.w X.K X.mg X.base CX k f fd ps sp)(hr:eG (k+1) X.A)(hg:Gl X x)(hm:X.mg x=some (.ref C))(hb:fO X.K fd ps ds)(hd:c8 kF ds)(hx:kx CX X E)
  (lV:(x==("__debug__":Str))=false:=by decide):PE X (.Call (.Name x p) [] [] pos) (AJ C sp kF E Br):=by
 intro bH s σ H Q I h
 refine iH (wo I hg hm ?_ lV)
 exact rV I.kIn M.kp (Kt (us:=[]) M F hr hb hd hx I .nil h)
end
structure fX (N P:List Str)(sc:nD):Prop where
 kind:sc.kind=.function
 co:sc.isCoroutine=false
 gen:sc.isGenerator=false
 nd:N.Nodup
 pre:N.take P.length=P
 par:∀x∈P,sc.names.lookup x=some .local\/sc.names.lookup x=some .cell
 nofree:∀y∈sc.names,y.2≠.free
variable {kindOf:Str->Option cD}
theorem JU {kindOf:Str->Option cD}{x:Str}:∀{binds:List (Str×bC)} {m:Str->Option bC},(∀v,(x,v)∉binds)->uU kindOf binds m x=m x
 |[],_,_=>rfl
 |(n,v)::r,m,h=>by
  unfold uU
  rw[JU λw hw=>h w (bJ _ hw)]
  split
  ·have:x≠n:=by rintro rfl;exact h v bF
   simp[this]
  ·rfl
theorem JV {kindOf:Str->Option cD}{x:Str}:∀{binds:List (Str×bC)} {m:Str->Option bC},(∀v,(x,v)∉binds)->uT kindOf binds m x=m x
 |[],_,_=>rfl
 |(n,v)::r,m,h=>by
  unfold uT
  rw[JV λw hw=>h w (bJ _ hw)]
  split
  ·rfl
  ·have:x≠n:=by rintro rfl;exact h v bF
   simp[this]
theorem JW {kindOf:Str->Option cD}{x:Str}{v:bC}:∀{P:List Str} {vs:List bC} {i:Nat} {m:Str->Option bC},P.Nodup->P[i]?=some x->vs[i]?=some v->kindOf x=some .local ->
  uU kindOf (P.zip vs) m x=some v
 |[],_,_,_,_,h,_,_=>by simp at h
 |_::_,[],_,_,_,_,h,_=>by simp at h
 |p::P,w::vs,0,m,nd,h1,h2,hk=>by
  simp at h1 h2;subst h1;subst h2
  show uU kindOf ((p,w)::P.zip vs) m p=_
  unfold uU
  rw[JU λv hv=>(cX.mp nd).1 (lI hv).1,if_pos hk]
  simp
 |p::P,w::vs,i+1,m,nd,h1,h2,hk=>by
  show uU kindOf ((p,w)::P.zip vs) m x=_
  unfold uU
  exact JW (i:=i) (cX.mp nd).2 (by simpa using h1) (by simpa using h2) hk
theorem JZ {kindOf:Str->Option cD}{x:Str}{v:bC}:∀{P:List Str} {vs:List bC} {i:Nat} {m:Str->Option bC},P.Nodup->P[i]?=some x->vs[i]?=some v->kindOf x≠some .local ->
  uT kindOf (P.zip vs) m x=some v
 |[],_,_,_,_,h,_,_=>by simp at h
 |_::_,[],_,_,_,_,h,_=>by simp at h
 |p::P,w::vs,0,m,nd,h1,h2,hk=>by
  simp at h1 h2;subst h1;subst h2
  show uT kindOf ((p,w)::P.zip vs) m p=_
  unfold uT
  rw[JV λv hv=>(cX.mp nd).1 (lI hv).1,if_neg hk]
  simp
 |p::P,w::vs,i+1,m,nd,h1,h2,hk=>by
  show uT kindOf ((p,w)::P.zip vs) m x=_
  unfold uT
  exact JZ (i:=i) (cX.mp nd).2 (by simpa using h1) (by simpa using h2) hk
noncomputable def start (N:List Str)(vs:List V):St:=vs.map some++bQ (N.length-vs.length) none
noncomputable def oW (CX:xP)(P:dA)(w:cY)(K:bG)(mg:Str->Option bC)(base:bU)(N:List Str)(qual:Str)(scope:nD)(f:bI)(cd:bC)(A:c7)(outer:List Env)(s:bP)(H:Hp)(E:XK):Cx where
 prog:=P
 w:=w
 K:=K
 mg:=mg
 base:=base
 A:=A.deeper (envOfC qual scope s.heap.objs.size f cd)
 N:=N
 s₀:=s
 H₀:=H
 env:=envOfC qual scope s.heap.objs.size f cd
 outer:=outer
 stack:=envOfC qual scope s.heap.objs.size f cd::outer
 ex:=[]
 calm:=true
 fn:=λ_=>true
 pn:=[]
 xe:=λe s'=>ce (cr P w) (A.deeper (envOfC qual scope s.heap.objs.size f cd)) (leaving (envOfC qual scope s.heap.objs.size f cd) e) (λ_ s''=>CX outer H s E e s'') (λe' s''=>CX outer H s E e' s'') s'
theorem Ku {sc:nD}(h:sc.names.lookup x=some .cell):∃c,(cellsFrom n sc.names []).lookup x=some c:=by
 have q:=kQ sc.names n [] (.inl h)
 exact pU.mp q
variable {qual:Str}{scope:nD}
theorem PR {w:cY}{K:bG}{mg:Str->Option bC}{base:bU}{N:List Str}{cd:bC}{A:c7}{outer:List Env}{s1:bP}{E:XK}{vs:List V}
  (S:fX N ps scope) (hd:A.handled=none) (e0:sZ P w K mg base A outer s H) (hl:vs.length=ps.length) (r:c8 vs us)
  (x:InCallC s s.heap.objs.size (uU (envOfC qual scope s.heap.objs.size f cd).kindOf (ps.zip us) λ_=>none) (cellsFrom (s.heap.objs.size+1) scope.names []) (uT (envOfC qual scope s.heap.objs.size f cd).kindOf (ps.zip us) λ_=>none) s1) :
  Inv (oW CX P w K mg base N qual scope f cd A outer s H E) [] (start N vs) H s1:=by
 have jM:ps.length<=N.length:=by have:=congrArg sW S.pre;rw[dR]at this;omega
 obtain⟨h1,tk,rfl,hk⟩:=x.done
 have C4:∀b:bI,b∉(oW CX P w K mg base N qual scope f cd A outer s H E).ex:=λb z=>absurd (show b∈([]:List bI)from z) (by simp)
 refine⟨⟨e0.mod,S.kind,rfl,rfl,bY _,λy z c h1 h2=>?_,λy hy=>?_,λy c _ h=>?_,λ_=>hd,c7.frames_deeper e0.frames,.inr ⟨rfl,rfl⟩,λb z=>absurd z (C4 b),e0.bs,e0.bsz,λb _ _=>C4 b,λb z=>absurd z (C4 b),e0.funs,e0.frf⟩,
  rfl,e0.bare,Un.kept hk,⟨_,x.toInCall.ns,λi y v h1 h2 h3=>?_⟩,λy c h=>⟨_,x.cell y c h⟩,e0.hok.fresh (bY _),λy c h=>?_,λp hp=>absurd (show p∈([]:List (bI×gH))from hp) (by simp),e0.hok.kept hk,?_⟩
 ·exact name_of_addr x.apart (PySem.mem_of_lookup h1) (PySem.mem_of_lookup h2)
 ·have hy:scope.names.lookup y=some .cell\/scope.names.lookup y=some .free:=hy
  rcases hy with hy|hy
  ·exact Ku hy
  ·exact absurd rfl (S.nofree _ (PySem.mem_of_lookup hy))
 ·exact nQ (x.above y c (PySem.mem_of_lookup h))
 ·have hi:i<vs.length:=by
   unfold start at h2
   by_cases hi:i<vs.length
   ·exact hi
   ·rw[ka (by simpa using hi)]at h2
    rw[kS]at h2
    split at h2<;>cases h2
  have ha:vs[i]?=some v:=by
   unfold start at h2
   rw[gO (by simpa using hi),c9]at h2
   cases e:vs[i]? with
   |none=>rw[e]at h2;cases h2
   |some a=>rw[e]at h2;cases h2;rfl
  obtain⟨u,hu,rv⟩:=r.get ha
  have hp:ps[i]?=some y:=by
   rw[←S.pre,List.getElem?_take_of_lt (by omega)];exact h1
  have Jl:ps.Nodup:=by rw[←S.pre];exact S.nd.sublist (vT _ _)
  refine⟨u,rv,?_⟩
  rcases S.par y (List.mem_of_getElem? hp)with k|k
  ·exact .inl ⟨k,JW Jl hp hu k⟩
  ·obtain⟨c,e⟩:=Ku (n:=s.heap.objs.size+1) k
   refine .inr ⟨.inl k,c,e,?_⟩
   have q:=x.cell y c e
   rw[JZ Jl hp hu (by show scope.names.lookup y≠_;rw[k];decide)]at q
   exact q
 ·exact e0.hok.fresh (nQ (x.above y c (PySem.mem_of_lookup h)))
 ·unfold start
  show _=N.length
  rw[cv,bN,fu]
  omega
theorem UH {w:cY}{K:bG}{mg:Str->Option bC}{base:bU}{k:Nat}{params:Arguments}{dV kV doc pm iF ct oc:bC}{an od:Option bI}
    {yA:Array (Option bC)} {N:List Str} (lk:K.lookup f=some ⟨oc,od,.func (kR name qual params body scope dV kV doc pm an iF ct),yA⟩) (kJ:oO K iF qual=true) (S:fX N ps scope)
    (len:∀vs H Q E,sp vs H Q E->vs.length=ps.length)
    (wR:∀(A:c7) (outer:List Env) (s:bP) (H:Hp) (vs:List V) (Q:VK) (E:XK),eG k (A.deeper (envOfC qual scope s.heap.objs.size f iF))->sp vs H Q E ->
      ∃t,tD (oW CX P w K mg base N qual scope f iF A outer s H E) body t/\t { nx:=λ_ H'=>Q .non H',rt:=Q } (start N vs) H) :
    dm P w K mg base CX (k+1) f (kR name qual params body scope dV kV doc pm an iF ct) ps sp:=by
  refine⟨len,λA outer s H args us vs Q E hr e0 hb r Ay=>?_⟩
  have hl:=len _ _ _ _ Ay
  have KX:K.In s.heap:=e0.mod.kin.keeps λb o e=>(e0.bs b o e).1
  have lim:s.heap.NoLimit:=e0.mod.nolimit.keeps λb o e=>(e0.bs b o e).1
  have CB:∀y∈ps.zip us,scope.names.lookup y.1=some .local\/(scope.names.lookup y.1=some .cell/\((cellsFrom (s.heap.objs.size+1) scope.names []).lookup y.1).isSome=true):=λ⟨n,v⟩ hy=>by
    rcases S.par n (lI hy).1 with q|q
    · exact .inl q
    · exact .inr ⟨q,kQ _ _ _ (.inl q)⟩
  refine codeAny_call_function hr.depth (KX _ _ lk) rfl S.co S.gen rfl (PySem.W.codeRec_of KX kJ) (hb _ _ _ _ ?_)
  refine wpAny_newFunctionEnv_cells S.kind CB λenv he s1 x=>?_
  subst he
  refine⟨lim.keeps x.toInCall.keep,codeAny_func ?_⟩
  obtain⟨t,ht,hq⟩:=wR A outer s H vs Q E (hr.deeper _) Ay
  have I:Inv (oW CX P w K mg base N qual scope f iF A outer s H E) [] (start N vs) H s1:=PR S hr.hd e0 hl r x
  refine eW (ht [] s1 (start N vs) H _ I hq) (λfl s' hs=>?_) λe s' hs=>hs
  have fin:∀{σ':St} {H':Hp} {v:V} {u:bC},Inv (oW CX P w K mg base N qual scope f iF A outer s H E) [] σ' H' s'->RelV v u->Q v H'->CE outer P w H s Q u s' :=
    λ{σ' H' v u} J rv q=>⟨v,H',J.os,J.bare,J.base,J.hok,rv,q⟩
  cases fl with
  |ret u=>
    obtain⟨v,σ',H',J,rv,q⟩:=hs
    exact fin J rv q
  |next=>
    obtain⟨σ',H',J,q⟩:=hs
    exact fin (v:=V.non) (u:=bC.none) J rfl q
  |brk=>
    obtain⟨_,_,_,q⟩:=hs
    exact False.elim q
  |cont=>
    obtain⟨_,_,_,q⟩:=hs
    exact False.elim q
variable {T:String}
section
variable {t:TA}{id:String}{r:List V->Hp->VK->Prop}
noncomputable def Jt (r:List V->Hp->VK->Prop)(t:TA):TE:=λσ H Q=>t σ H λvs H1=>r vs H1 Q
theorem Hk (hc:gB X (.builtin id) r)(hg:Gl X x)(hm:X.mg x=none)(hv:dr x=some (.builtin id))(ha:PA X (e::es) t)(hn:x≠"__name__":=by decide)(lV:(x==("__debug__":Str))=false:=by decide)
  (he:bK (e::es) X.env=(false,cO e X.env)::bK es X.env:=by rfl) (jM:(dq pos (bK es X.env)).any (·.1)=false:=by rfl):PE X (.Call (.Name x p) (e::es) [] pos) (Jt r t):=by
 intro bH s σ H Q I h
 refine iH (j0 I hg hm hv ?_ hn lV)
 exact PyProof.Rows.callWith_builtin1 (eL (ha pos bH s σ H _ I h) λus s1 ⟨vs,H1,I1,r1,q1⟩=>hc bH s1 σ H1 vs us Q I1 r1 q1) he jM
theorem J0 (hc:gB X (.type T) r)(hg:Gl X x)(hm:X.mg x=none)(hv:dr x=some (.type T))(ha:PA X (e::es) t)(hn:x≠"__name__":=by decide)(lV:(x==("__debug__":Str))=false:=by decide)
  (he:bK (e::es) X.env=(false,cO e X.env)::bK es X.env:=by rfl) (jM:(dq pos (bK es X.env)).any (·.1)=false:=by rfl):PE X (.Call (.Name x p) (e::es) [] pos) (Jt r t):=by
 intro bH s σ H Q I h
 refine iH (j0 I hg hm hv ?_ hn lV)
 exact eF (eL (ha pos bH s σ H _ I h) λus s1 ⟨vs,H1,I1,r1,q1⟩=>hc bH s1 σ H1 vs us Q I1 r1 q1) he jM
end
end L2
namespace HT
open PySem PyProof.Rows
open PySem.SeqAt
open PySem.AutoSeq1 (wpAny_loadPart')
open PySem.MeetsSeq PySem.MeetsSeq2 PySem.MeetsSeq3
section
variable {prog:dA}{w:cY}{A:c7}{E:bC->bP->Prop}{s:bP}
theorem cat_tup {t b:bI}{vs ws:List bC}{Q:bC->bP->Prop}(ht:IsTup s.heap t vs.toArray)(hb:IsTup s.heap b ws.toArray)(hv:vs≠[])
    (h1:ws=[]->Q (.ref t) s) (h2:ws≠[]->Q (.ref s.heap.objs.size) { s with heap:=s.heap.push { cls:=.type "tuple",data:=.seq (vs++ws).toArray } })
    (hsz:vs.length+ws.length<=sizeLine):ce (cr prog w) A (fH .Add (.ref t) (.ref b)) Q E s:=by
  obtain⟨⟨cls,dd,data,sl⟩,ho,hc,n,hd⟩:=id ht
  obtain⟨⟨Fu,DY,data2,Et⟩,D6,Ct,n2,hd2⟩:=id hb
  simp only at hc hd Ct hd2
  subst hc hd Ct hd2
  have e:vs.toArray++ws.toArray=(vs++ws).toArray:=by simp
  by_cases hw:ws=[]
  · exact vV ⟨_,ho,rfl⟩ ⟨_,D6,rfl⟩ noFill_tuple_add seq_tuple_add PySem.F.slot_tuple_add PySem.F.entry_tuple_add (PySem.F.args_tuple_add_2 _ _)
      (tuple_addW1 t b vs.toArray ws.toArray n n2 dd DY sl Et (by simpa using hv) (by simp[hw])) ⟨ho,D6,h1 hw⟩
  · refine vV ⟨_,ho,rfl⟩ ⟨_,D6,rfl⟩ noFill_tuple_add seq_tuple_add PySem.F.slot_tuple_add PySem.F.entry_tuple_add (PySem.F.args_tuple_add_2 _ _)
      (tuple_addW2 t b vs.toArray ws.toArray n n2 dd DY sl Et (by simpa using hv) (by simpa using hw) (by rw[cm,cm];exact hsz)) ⟨ho,D6,?_⟩
    rw[e]
    exact h2 hw
noncomputable def sIx (n d:Nat):Option Int->Nat
 |none=>d
 |some v=>if v<0 then(v+(n:Int)).toNat else min v.toNat n
theorem sIx_none (n d:Nat):sIx n d none=d:=rfl
theorem sIx_nat (n d k:Nat):sIx n d (some (k:Int))=min k n:=by
 show(if(k:Int)<0 then((k:Int)+(n:Int)).toNat else min (k:Int).toNat n)=min k n
 rw[if_neg (by omega),fJ]
end
end HT
namespace L2
open PySem PySem.Spec PyProof.Rows
noncomputable abbrev TO:=St->Hp->(Option Int->Hp->Prop)->Prop
noncomputable def PO (X:Cx)(e:Option Expr)(t:TO):Prop :=
 ∀(bH:List (bI×gH)) (s:bP) (σ:St) (H:Hp) (Q:Option Int->Hp->Prop),Inv X bH σ H s->t σ H Q ->
  ce (cr X.prog X.w) X.A (evalPart e X.env) (λu s'=>∃o H',Inv X bH σ H' s'/\IsPart u o/\Q o H') X.xe s
noncomputable def zR:TO:=λ_ H Q=>Q none H
noncomputable def Dy (t:TE):TO:=λσ H Q=>t σ H λx H1=>∃i,x=.int i/\Q (some i) H1
theorem Pg {ns:List Int}:∀{us:List bC},c8 (ns.map V.int) us->IntsAre us ns:=by
 induction ns with
 |nil=>intro us r;rw[rQ]at r;cases r;exact .nil
 |cons n ns ih=>
  intro us r
  rw[cn]at r
  cases r with
  |cons r1 r2=>
   obtain⟨t,e⟩:=r1
   subst e
   exact .cons n t (ih r2)
variable {X:Cx}{e:Expr}{p2 pos:mZ}{te:TE}{us:List bC}{xs:List V}
section
variable {lo hi:Option Expr}{tl th:TO}
theorem Ry:PO X none zR:=by
 intro bH s σ H Q I h
 rw[uA]
 exact b9 ⟨none,H,I,.none,h⟩
theorem HF (h:PE X e te):PO X (some e) (Dy te):=by
 intro bH s σ H Q I hw
 rw[evalPart_some]
 refine eL (h bH s σ H _ I hw) λu s1 fk=>?_
 obtain⟨x,H1,I1,r1,q1⟩:=fk
 obtain⟨i,rfl,q⟩:=q1
 obtain⟨t,rfl⟩:=r1
 exact⟨some i,H1,I1,.int i t,q⟩
noncomputable def Fo (X:Cx)(r:V->Option Int->Option Int->Hp->VK->Prop):Prop :=
 ∀(bH:List (bI×gH)) (s:bP) (σ:St) (H:Hp) (x:V) (v vl vu:bC) (lo hi:Option Int) (sl:bI) (Q:VK),Inv X bH σ H s->RelV x v->s.heap.IsSliceOf sl vl vu .none->IsPart vl lo->IsPart vu hi->r x lo hi H Q ->
  ∃T id,typeLookup (.type T) "__getitem__"=pure (some (.builtin id))/\s.TypeIs v T/\ce (cr X.prog X.w) X.A (pM v (.ref sl)) (EP X bH σ Q) X.xe s
noncomputable def Oh (r:V->Option Int->Option Int->Hp->VK->Prop)(te:TE)(tl th:TO):TE:=λσ H Q=>te σ H λx H1=>tl σ H1 λl H2=>th σ H2 λu H3=>r x l u H3 Q
theorem Kv {r:V->Option Int->Option Int->Hp->VK->Prop}(hr:Fo X r)(he:PE X e te)(hl:PO X lo tl)(hu:PO X hi th):PE X (.Subscript e (.Slice lo hi none p2) pos) (Oh r te tl th):=by
  intro bH s σ H Q I h
  refine Subscript_ (eL (he bH s σ H _ I h) λv s1 fk=>?_)
  obtain⟨x,H1,I1,r1,q1⟩:=fk
  refine wpAny_Slice (eL (hl bH s1 σ H1 _ I1 q1) λvl s2 ⟨l,H2,I2,pl,q2⟩=>eL (hu bH s2 σ H2 _ I2 q2) λvu s3 fk=>?_)
  obtain⟨u,H3,I3,pu,q3⟩:=fk
  rw[uA]
  refine b9 ?_
  have I4:Inv X bH σ H3 { s3 with heap:=s3.heap.push { cls:=.type "slice",data:=.fields #[vl,vu,.none] } }:=I3.kept (t':=s3.toks) λb ob q=>bE _ q
  obtain⟨T,id,hT,ht,hg⟩:=hr bH { s3 with heap:=s3.heap.push { cls:=.type "slice",data:=.fields #[vl,vu,.none] } } σ H3 x v vl vu l u s3.heap.objs.size Q I4 r1 (yH.new ..) pl pu q3
  show ce (cr X.prog X.w) X.A (subscriptTail e (.Slice lo hi none p2) v (.ref s3.heap.objs.size)) (EP X bH σ Q) X.xe { s3 with heap:=s3.heap.push { cls:=.type "slice",data:=.fields #[vl,vu,.none] } }
  exact tail_any (ops:=[.ref s3.heap.objs.size,v]) ht hT hg (by with_unfolding_all rfl)
noncomputable def uX (xs:List V)(lo hi:Option Int):List V:=(xs.drop (HT.sIx xs.length 0 lo)).take (HT.sIx xs.length xs.length hi-HT.sIx xs.length 0 lo)
theorem O0 (xs:List V)(lo hi:Option Int):(uX xs lo hi).length<=xs.length:=by
 unfold uX
 rw[dR,dQ]
 omega
noncomputable def AG (K:bG):R2:=λx y H Q=>∃a b xs ys,x=.ref a/\y=.ref b/\lN K H a xs/\lN K H b ys/\xs≠[]/\xs.length+ys.length<=sizeLine /\
 (ys=[]->Q (.ref a) H)/\(ys≠[]->∀p,H p=none->Q (.ref p) (fM H p (.tup (xs++ys))))
theorem c8.nil_iff (r:c8 xs us):us=[]↔xs=[]:=by
 cases r with
 |nil=>simp
 |cons _ _=>simp
theorem Rz:jC X (fH .Add) (AG X.K):=by
 intro bH s σ H x y v u Q I rx ry h
 obtain⟨a,b,xs,ys,rfl,rfl,ha,hb,hx,hz,q1,q2⟩:=h
 cases rx
 cases ry
 obtain⟨df,r1,p1,_⟩:=I.tuple ha
 obtain⟨tN,r2,p2,_⟩:=I.tuple hb
 refine HT.cat_tup p1 p2 (λz=>hx (r1.nil_iff.mp z)) (λz=>⟨.ref a,H,I,rfl,q1 (r2.nil_iff.mp z)⟩) (λz=>?_) (by rw[←r1.length,←r2.length];exact hz)
 refine⟨.ref s.heap.objs.size,_,I.laid (t':=s.toks) (o:=.tup (xs++ys)) (λb ob q=>bE _ q) (bY _) ?_,rfl,q2 (λw=>z (r2.nil_iff.mpr w)) _ (I.hok.fresh (bY _))⟩
 exact⟨by rw[cv];exact hz,_,r1.append r2,IsTup.new _ _⟩
end
noncomputable def ixN (n:Nat)(i:Int):Option Nat:=if 0<=i then(if i<n then some i.toNat else none)else if -(n:Int)<=i then some (i+n).toNat else none
variable {α:Type}
noncomputable def atI (xs:List α)(i:Int):Option α:=(ixN xs.length i).bind λj=>xs[j]?
variable {j n:Nat}
theorem K4 {i:Int}(h:ixN n i=some j):seqIndex? i n=some j/\j<n/\-(n:Int)<=i/\i<n:=by
 unfold ixN at h
 by_cases h0:0<=i
 ·rw[if_pos h0]at h
  by_cases h1:i<n
  ·rw[if_pos h1]at h
   have e:i.toNat=j:=Option.some.inj h
   exact⟨by rw[qQ h0 h1,e],by omega,by omega,h1⟩
  ·rw[if_neg h1]at h;cases h
 ·rw[if_neg h0]at h
  by_cases h1:-(n:Int)<=i
  ·rw[if_pos h1]at h
   have e:(i+n).toNat=j:=Option.some.inj h
   exact⟨by rw[pN (by omega) h1,e],by omega,h1,by omega⟩
  ·rw[if_neg h1]at h;cases h
theorem EQ {xs:List α}{i:Int}{v:α}(h:atI xs i=some v):∃j,seqIndex? i xs.length=some j/\xs[j]?=some v/\j<xs.length/\-(xs.length:Int)<=i/\i<xs.length:=by
 unfold atI at h
 cases e:ixN xs.length i with
 |none=>rw[e]at h;cases h
 |some j=>
  rw[e]at h
  obtain⟨h1,h2,h3,h4⟩:=K4 e
  exact⟨j,h1,h,h2,h3,h4⟩
theorem yp {xs:List α}{v:α}(h:xs[j]?=some v):atI xs (j:Int)=some v:=by
 have hj:j<xs.length:=(cB.mp h).1
 have e:ixN xs.length (j:Int)=some j:=by
  unfold ixN
  rw[if_pos (by omega),if_pos (by omega)];simp
 unfold atI;rw[e];exact h
noncomputable def oQ (b:Expr):Prop:=∀o i,qR b false o i=operate [o,i] (pM o i)
noncomputable def xQ (X:Cx)(r:R2):Prop :=
 ∀(value slice:Expr) (bH:List (bI×gH)) (s:bP) (σ:St) (H:Hp) (x y:V) (v u:bC) (Q:VK),Inv X bH σ H s->RelV x v->RelV y u->r x y H Q ->
  qR slice false v u=operate [v,u] (pM v u)->ce (cr X.prog X.w) X.A (subscriptTail value slice v u) (EP X bH σ Q) X.xe s
noncomputable def DT (X:Cx)(id:String)(r:V->List V->Hp->VK->Prop):Prop :=
 ∀(bH:List (bI×gH)) (s:bP) (σ:St) (H:Hp) (x:V) (xs:List V) (v:bC) (us:List bC) (Q:VK),Inv X bH σ H s->RelV x v->c8 xs us->r x xs H Q ->
  ce (cr X.prog X.w) X.A (call (.builtin id) (v::us)) (EP X bH σ Q) X.xe s
variable {H:Hp}{T:String}{fT:mZ}{es:List Expr}{df:List bC}{name:Str}{o:Expr}{bH:List (bI×gH)}{r:R2}{s:bP}{ta tb to:TE}{u:bC}{y:V}{σ:St}
section
variable {a b:Expr}
theorem xQ.or {r':R2}(h:xQ X r)(h':xQ X r'):xQ X (λx y H Q=>r x y H Q\/r' x y H Q):=by
 intro value slice bH s σ H x y v u Q I rx ry q hs
 rcases q with q|q
 ·exact h value slice bH s σ H x y v u Q I rx ry q hs
 ·exact h' value slice bH s σ H x y v u Q I rx ry q hs
theorem UI (hr:xQ X r)(ha:PE X a ta)(hb:PE X b tb)(hs:oQ b):PE X (.Subscript a b pos) (Ez r ta tb):=by
 intro bH s σ H Q I h
 exact Subscript_ (AR ha hb I h λv u s2 x y H2 I2 rx ry q=>hr a b bH s2 σ H2 x y v u Q I2 rx ry q (hs _ _))
noncomputable def Dh (K:bG):R2:=λx y H Q=>∃p xs i v,x=.ref p/\y=.int i/\gp K H p xs/\atI xs i=some v/\Q v H
noncomputable def Dj (K:bG):R2:=λx y H Q=>∃p xs i v,x=.ref p/\y=.int i/\lN K H p xs/\atI xs i=some v/\Q v H
noncomputable def Di:R2:=λx y H Q=>∃z i c,x=.str z/\y=.int i/\z.length<=sizeLine/\atI z.cps.toList i=some c/\Q (.str ⟨#[c]⟩) H
theorem RA:xQ X (Dh X.K):=by
 intro value slice bH s σ H x y v u Q I rx ry h hs
 obtain⟨p,xs,i,z,rfl,rfl,hq,he,q⟩:=h
 cases rx
 obtain⟨t,rfl⟩:=ry
 obtain⟨df,r,pl,hz⟩:=I.list hq
 obtain⟨j,h1,h2,h3,h4,h5⟩:=EQ he
 obtain⟨w,ew,vG⟩:=r.get h2
 have hl:=r.length
 have hn:=mP
 have fin:EP X bH σ Q w s:=⟨z,H,I,vG,q⟩
 by_cases h0:0<=i
 ·have hj:i.toNat=j:=by
   rw[qQ h0 h5]at h1
   exact Option.some.inj h1
  exact item_listR pl.isList h0 (by omega) (by rw[hj];simpa using ew) fin hs
 ·have hj:(i+(df.toArray.size:Int)).toNat=j:=by
   rw[pN (by omega) h4]at h1
   rw[cm,←hl]
   exact Option.some.inj h1
  exact subscriptTail_builtinR (x:=w) pl.isList.typeIs pO.lookup
   (wpAny_getItem_list_neg (Q:=λr s'=>r=w/\EP X bH σ Q r s') pl.isList (by omega) (by rw[cm]<;>omega) (by omega) (by rw[hj];simpa using ew) ⟨rfl,fin⟩) hs
theorem TD:xQ X (Dj X.K):=by
 intro value slice bH s σ H x y v u Q I rx ry h hs
 obtain⟨p,xs,i,z,rfl,rfl,hq,he,q⟩:=h
 cases rx
 obtain⟨t,rfl⟩:=ry
 obtain⟨df,r,pl,hz⟩:=I.tuple hq
 obtain⟨j,h1,h2,h3,h4,h5⟩:=EQ he
 obtain⟨w,ew,vG⟩:=r.get h2
 have hl:=r.length
 have hn:=mP
 have fin:EP X bH σ Q w s:=⟨z,H,I,vG,q⟩
 exact subscriptTail_builtinR (x:=w) pl.typeIs slot_tuple_getitem.lookup
  (getItem_tuple (j:=j) (Q:=λr s'=>r=w/\EP X bH σ Q r s') pl (by omega) (by omega) (by rw[cm,←hl];exact h1) (by simpa using ew) ⟨rfl,fin⟩) hs
theorem rc:xQ X Di:=by
 intro value slice bH s σ H x y v u Q I rx ry h hs
 obtain⟨z,i,c,rfl,rfl,hz,he,q⟩:=h
 obtain⟨t,rfl⟩:=rx
 obtain⟨t',rfl⟩:=ry
 obtain⟨j,h1,h2,h3,h4,h5⟩:=EQ he
 have hl:z.cps.toList.length=z.length:=by simp[Str.length]
 rw[hl]at h1 h4 h5
 have hn:=mP
 exact tail_any (typeIs_str s z t) slot_str_getitem.lookup (getItem_str (c:=c) (by
  have e1:decide (i < -(2 ^ 63:Int))=false:=decide_eq_false (by omega)
  have e2:decide (i >= 2 ^ 63)=false:=decide_eq_false (by omega)
  rw[e1,e2,Bool.or_false]) (by rw[h1];simpa using h2) ⟨.str ⟨#[c]⟩,H,I.tok _,⟨_,rfl⟩,q⟩) hs
noncomputable def Jq (K:bG):R2:=λx y H Q=>Dh K x y H Q\/Dj K x y H Q\/Di x y H Q
theorem LJ:xQ X (Jq X.K):=RA.or (TD.or rc)
theorem Ph (df:List bC)(n j:Nat)(u:bC):gH.mapSeq (·.setIfInBounds j u) { cls:=.type "list",data:=.seq df.toArray n } = { cls:=.type "list",data:=.seq (df.set j u).toArray n }:=by
  simp[gH.mapSeq]
theorem Inv.lst {p:bI}(I:Inv X bH σ H s)(h:H p=some (.lst xs)) :
    ∃(df:List bC) (n:Nat),c8 xs df/\s.heap.get? p=some { cls:=.type "list",data:=.seq df.toArray n }/\xs.length<=sizeLine:=by
  obtain⟨z,df,n,r,e⟩:=I.hok p _ h
  exact⟨df,n,r,e,z⟩
theorem Inv.lstUpd {p:bI}{ys:List V}{its':List bC}{n':Nat}{f:gH->gH}(I:Inv X bH σ H s)(h:H p=some (.lst xs))
    (ho:s.heap.get? p=some { cls:=.type "list",data:=.seq df.toArray n }) (hf:f { cls:=.type "list",data:=.seq df.toArray n } = { cls:=.type "list",data:=.seq its'.toArray n' }) (r:c8 ys its') (hz:ys.length<=sizeLine) (t:Nat) :
    Inv X bH σ (fM H p (.lst ys)) { s with heap:=s.heap.update p f,toks:=t }:=by
  have e:(s.heap.update p f).get? p=some { cls:=.type "list",data:=.seq its'.toArray n' }:=by
    rw[lP f ho (by rw[hf]<;>rfl),hf]
  refine I.write (x:=p) (e:=p) (by rw[h];trivial) (.inl rfl) (λb u hb q=>(rO _ _ (Ne.symm hb)).trans q) ⟨_,e⟩ ?_
  exact⟨hz,its',n',r,e⟩
noncomputable def Dn:V->V->V->Hp->(Hp->Prop)->Prop:=λo i v H Q=>∃p xs k j,o=.ref p/\i=.int k/\H p=some (.lst xs)/\ixN xs.length k=some j/\Q (fM H p (.lst (xs.set j v)))
theorem Kw:AO X Dn:=by
 intro bH s σ H o i v ov iv u Q I ro ri rv h
 obtain⟨p,xs,k,j,rfl,rfl,hp,hj,q⟩:=h
 cases ro
 obtain⟨t,rfl⟩:=ri
 obtain⟨df,n,r,ho,hz⟩:=I.lst hp
 obtain⟨h1,h2,h3,h4⟩:=K4 hj
 have hl:=r.length
 have hn:=mP
 have I':Inv X bH σ (fM H p (.lst (xs.set j v))) { s with heap:=s.heap.update p (gH.mapSeq (·.setIfInBounds j u)) } :=
  I.lstUpd hp ho (Ph df n j u) (r.set rv j) (by rw[lH];exact hz) s.toks
 by_cases h0:0<=k
 ·have hk:k.toNat=j:=by
   rw[qQ h0 h4]at h1
   exact Option.some.inj h1
  exact PySem.W.ki_setAt ho h0 (by omega) (by rw[cm,←hl];exact h4) (by rw[hk];exact⟨_,I',q⟩)
 ·have hk:(k+(df.toArray.size:Int)).toNat=j:=by
   rw[pN (by omega) h3]at h1
   rw[cm,←hl]
   exact Option.some.inj h1
  exact PySem.W.ki_setBack ho (by omega) (by rw[cm,←hl];exact h3) (by omega) (by rw[hk];exact⟨_,I',q⟩)
theorem OL (lo hi:Option Int)(n:Nat):(iL lo hi none n).1=((HT.sIx n 0 lo:Nat):Int)/\(iL lo hi none n).2.1=((HT.sIx n n hi:Nat):Int)/\(iL lo hi none n).2.2=1:=by
 refine⟨?_,?_,rfl⟩
 ·cases lo with
  |none=>simp[iL,HT.sIx]
  |some i=>
   simp only[iL,HT.sIx,uQ,show(1:Int) > 0 by decide,if_true]
   by_cases h:i<0
   ·simp only[h,if_true]<;>omega
   ·simp only[h,if_false]<;>omega
 ·cases hi with
  |none=>simp[iL,HT.sIx]
  |some i=>
   simp only[iL,HT.sIx,uQ,show(1:Int) > 0 by decide,if_true]
   by_cases h:i<0
   ·simp only[h,if_true]<;>omega
   ·simp only[h,if_false]<;>omega
theorem OC (df:List bC)(lo hi:Option Int):slicePick df.toArray lo hi none=((df.drop (HT.sIx df.length 0 lo)).take (HT.sIx df.length df.length hi-HT.sIx df.length 0 lo)).toArray:=by
 obtain⟨h1,h2,h3⟩:=OL lo hi df.toArray.size
 unfold slicePick
 rw[h1,h2,h3]
 simp only[sliceRange_one,pick_run,cm]<;>rfl
noncomputable def GO (K:bG):V->Option Int->Option Int->Hp->VK->Prop:=λx lo hi H Q=>∃a xs,x=.ref a/\gp K H a xs/\∀p,H p=none->Q (.ref p) (fM H p (.lst (uX xs lo hi)))
theorem RB:Fo X (GO X.K):=by
 intro bH s σ H x v vl vu lo hi sl Q I rx hs pl pu h
 obtain⟨a,xs,rfl,hx,q⟩:=h
 cases rx
 obtain⟨df,r,ht,hz⟩:=I.list hx
 have hJ:=r.length
 refine⟨"list",_,pO.lookup,ht.isList.typeIs,?_⟩
 refine wpAny_getItem_list_slice ht.isList hs pl pu .none (by simp) ?_ (by rw[cm]<;>omega)
 rw[OC,←hJ]
 refine⟨.ref s.heap.objs.size,_,I.laid (t':=s.toks) (o:=.lst (uX xs lo hi)) (λb ob q=>bE _ q) (bY _) ?_,rfl,q _ (I.hok.fresh (bY _))⟩
 exact⟨dC (O0 xs lo hi) hz,_,0,(r.drop (HT.sIx xs.length 0 lo)).take (HT.sIx xs.length xs.length hi-HT.sIx xs.length 0 lo),bX _ rfl⟩
noncomputable def kI:V->Bool
 |.non=>true
 |.bl _=>true
 |.int _=>true
 |.str _=>true
 |_=>false
noncomputable def uY:V->V->Bool
 |.non,.non=>true
 |.bl a,.bl b=>a==b
 |.bl a,.int b=>(if a then 1 else 0)==b
 |.int a,.bl b=>a==(if b then 1 else 0)
 |.int a,.int b=>a==b
 |.str a,.str b=>a==b
 |_,_=>false
theorem TH {A:c7}{x:V}{v:bC}(ry:RelV y u)(rx:RelV x v)(fy:kI y=true)(fx:kI x=true):SeqAt.EqAt A s u v (uY y x):=by
 cases y with
 |non=>
  cases ry
  cases x with
  |non=>cases rx;exact SeqAt.EqAt.same _
  |bl b=>cases rx;exact SeqAt.EqAt.none_bool b
  |int b=>obtain⟨t,rfl⟩:=rx;exact SeqAt.EqAt.none_int b t
  |str b=>obtain⟨t,rfl⟩:=rx;exact SeqAt.EqAt.none_str b t
  |_=>exact absurd (show false=true from fx) bV
 |bl a=>
  cases ry
  cases x with
  |non=>cases rx;exact SeqAt.EqAt.bool_none a
  |bl b=>cases rx;exact SeqAt.EqAt.bool_bool a b
  |int b=>obtain⟨t,rfl⟩:=rx;exact SeqAt.EqAt.bool_int a b t
  |str b=>obtain⟨t,rfl⟩:=rx;exact SeqAt.EqAt.bool_str a b t
  |_=>exact absurd (show false=true from fx) bV
 |int a=>
  obtain⟨t',rfl⟩:=ry
  cases x with
  |non=>cases rx;exact SeqAt.EqAt.int_none a t'
  |bl b=>cases rx;exact SeqAt.EqAt.int_bool a t' b
  |int b=>obtain⟨t,rfl⟩:=rx;exact SeqAt.EqAt.int_int a t' b t
  |str b=>obtain⟨t,rfl⟩:=rx;exact SeqAt.EqAt.int_str a t' b t
  |_=>exact absurd (show false=true from fx) bV
 |str a=>
  obtain⟨t',rfl⟩:=ry
  cases x with
  |non=>cases rx;exact SeqAt.EqAt.str_none a t'
  |bl b=>cases rx;exact SeqAt.EqAt.str_bool a t' b
  |int b=>obtain⟨t,rfl⟩:=rx;exact SeqAt.EqAt.str_int a t' b t
  |str b=>obtain⟨t,rfl⟩:=rx;exact SeqAt.EqAt.str_str a t' b t
  |_=>exact absurd (show false=true from fx) bV
 |_=>exact absurd (show false=true from fy) bV
noncomputable def rG (x:V)(u:bC):Bool:=match u with
 |.none=>uY .non x
 |.bool b=>uY (.bl b) x
 |.int i _=>uY (.int i) x
 |.str z _=>uY (.str z) x
 |_=>false
theorem HQ {x:V}(r:RelV y u)(f:kI y=true):rG x u=uY y x:=by
 cases y with
 |non=>cases r;rfl
 |bl b=>cases r;rfl
 |int i=>obtain⟨t,rfl⟩:=r;rfl
 |str z=>obtain⟨t,rfl⟩:=r;rfl
 |_=>exact absurd (show false=true from f) bV
theorem j7 {x:V}:∀{xs:List V} {us:List bC},c8 xs us->xs.all kI=true->us.any (rG x)=xs.any λy=>uY y x
 |_,_,.nil,_=>rfl
 |y::xs,u::us,.cons r t,f=>by
  rw[fL,cw]at f
  rw[hG,hG,HQ r f.1,j7 t f.2]
theorem vf {A:c7}{s:bP}{x:V}{v:bC}(rx:RelV x v)(fx:kI x=true):∀{xs:List V} {us:List bC},c8 xs us->xs.all kI=true->∀u∈us,SeqAt.EqAt A s u v (rG x u)
 |_,_,.nil,_=>λu hu=>by cases hu
 |y::xs,u::us,.cons r t,f=>λu' hu=>by
  rw[fL,cw]at f
  rcases bL.mp hu with rfl|hu
  ·rw[HQ r f.1];exact TH r rx f.1 fx
  ·exact vf rx fx t f.2 u' hu
noncomputable def Ed (x:V)(xs:List V):Bool:=xs.any λy=>uY y x
noncomputable def GM (K:bG)(neg:Bool):R2:=λx y H Q=>∃p xs,y=.ref p/\(gp K H p xs\/lN K H p xs)/\kI x=true/\xs.all kI=true/\Q (.bl (if neg then !Ed x xs else Ed x xs)) H
theorem PU:jC X (dZ .In) (GM X.K false):=by
 intro bH s σ H x y v u Q I rx ry h
 obtain⟨p,xs,rfl,hq,fx,fs,q⟩:=h
 cases ry
 rcases hq with hq|hq
 ·obtain⟨df,r,pl,hz⟩:=I.list hq
  refine SeqAt.in_listAt (rG x) pl.isList (λw hw=>vf rx fx r fs w (by simpa using hw)) ⟨.bl _,H,I,rfl,?_⟩
  rw[show df.toArray.any (rG x)=df.any (rG x)by simp,j7 r fs]
  exact q
 ·obtain⟨df,r,pl,hz⟩:=I.tuple hq
  refine SeqAt.in_tupleAt (rG x) pl (λw hw=>vf rx fx r fs w (by simpa using hw)) ⟨.bl _,H,I,rfl,?_⟩
  rw[show df.toArray.any (rG x)=df.any (rG x)by simp,j7 r fs]
  exact q
theorem jf:jC X (dZ .NotIn) (GM X.K true):=by
 intro bH s σ H x y v u Q I rx ry h
 obtain⟨p,xs,rfl,hq,fx,fs,q⟩:=h
 cases ry
 rcases hq with hq|hq
 ·obtain⟨df,r,pl,hz⟩:=I.list hq
  refine SeqAt.notIn_listAt (rG x) pl.isList (λw hw=>vf rx fx r fs w (by simpa using hw)) ⟨.bl _,H,I,rfl,?_⟩
  rw[show df.toArray.any (rG x)=df.any (rG x)by simp,j7 r fs]
  exact q
 ·obtain⟨df,r,pl,hz⟩:=I.tuple hq
  refine SeqAt.notIn_tupleAt (rG x) pl (λw hw=>vf rx fx r fs w (by simpa using hw)) ⟨.bl _,H,I,rfl,?_⟩
  rw[show df.toArray.any (rG x)=df.any (rG x)by simp,j7 r fs]
  exact q
theorem OM:gB X (.builtin "len") (λxs H Q=>∃p ys,xs=[.ref p]/\(gp X.K H p ys\/lN X.K H p ys)/\Q (.int ys.length) H):=by
 intro bH s σ H xs us Q I r h
 obtain⟨p,ys,rfl,hq,q⟩:=h
 obtain⟨u,rfl,rx⟩:=oj r
 cases rx
 have hn:=mP
 rcases hq with hq|hq
 ·obtain⟨df,r',pl,hz⟩:=I.list hq
  have hJ:=r'.length
  exact Calls.call_len_list pl.isList (by simp only[cm]<;>omega) ⟨.int ys.length,H,I.tok _,⟨s.toks+1,by rw[cm,hJ]⟩,q⟩
 ·obtain⟨df,r',pl,hz⟩:=I.tuple hq
  have hJ:=r'.length
  exact len_tuple pl (by simp only[cm]<;>omega) ⟨.int ys.length,H,I.tok _,⟨s.toks+1,by rw[cm,hJ]⟩,q⟩
theorem ON:gB X (.builtin "len") (λxs H Q=>∃z,xs=[.str z]/\z.length<=sizeLine/\Q (.int z.length) H):=by
 intro bH s σ H xs us Q I r h
 obtain⟨z,rfl,hz,q⟩:=h
 obtain⟨u,rfl,t,rfl⟩:=oj r
 have hn:=mP
 exact len_str (by omega) ⟨.int z.length,H,I.tok _,⟨_,rfl⟩,q⟩
theorem gB.or {f:bC}{r r':List V->Hp->VK->Prop}(h:gB X f r)(h':gB X f r'):gB X f (λxs H Q=>r xs H Q\/r' xs H Q):=by
 intro bH s σ H xs us Q I rs q
 rcases q with q|q
 ·exact h bH s σ H xs us Q I rs q
 ·exact h' bH s σ H xs us Q I rs q
theorem wz:gB X (.type "list") (λxs H Q=>∃p ys,xs=[.ref p]/\(gp X.K H p ys\/lN X.K H p ys)/\∀l,H l=none->Q (.ref l) (fM H l (.lst ys))):=by
  intro bH s σ H xs us Q I r h
  obtain⟨p,ys,rfl,hq,q⟩:=h
  obtain⟨u,rfl,rx⟩:=oj r
  cases rx
  have fin:∀(df:List bC),c8 ys df->ys.length<=sizeLine->∀(h':bU) (c':Nat),(∀b o',s.heap.get? b=some o'->h'.get? b=some o') ->
      h'.get? s.heap.objs.size=some { cls:=.type "list",dict:=none,data:=.seq df.toArray c',slots:=#[] }->EP X bH σ Q (.ref s.heap.objs.size) { s with heap:=h' }:=λdf r' hz h' c' kp e=>
    ⟨.ref s.heap.objs.size,_,I.laid (t':=s.toks) kp (bY _) (show fP X.prog X.w _ h' _ (.lst ys)from⟨hz,df,c',r',e⟩),rfl,q _ (I.hok.fresh (bY _))⟩
  rcases hq with hq|hq
  · obtain⟨df,r',pl,hz⟩:=I.list hq
    have hJ:=r'.length
    obtain⟨o,ho,hc,n,hd⟩:=pl.isList
    exact call_list_seq p (.inl rfl) ho hc hd (λh' c' kp e=>fin df r' hz h' c' kp e) (by simp only[cm]<;>omega)
  · obtain⟨df,r',pl,hz⟩:=I.tuple hq
    have hJ:=r'.length
    obtain⟨o,ho,hc,n,hd⟩:=pl
    exact call_list_seq p (.inr rfl) ho hc hd (λh' c' kp e=>fin df r' hz h' c' kp e) (by simp only[cm]<;>omega)
noncomputable def Jz (K:bG)(T:String)(x:V)(H:Hp):Prop:=match x with
 |.str _=>T = "str"
 |.int _=>T = "int"
 |.ref p=>(T = "list"/\∃xs,gp K H p xs)\/(T = "tuple"/\∃o,K.lookup p=some o/\o.cls=.type "tuple"/\o.dict=none) \/
   (T = "dict"/\((∃dS,H p=some (.dK dS))\/∃dS,H p=some (.dT dS)))\/(T = "set"/\∃S n,H p=some (.set S n))
 |_=>False
theorem TJ {x:V}{v:bC}(I:Inv X bH σ H s)(r:RelV x v)(ty:Jz X.K T x H) :
  s.TypeIs v T/\∀a,v=.ref a->∃ob,s.heap.get? a=some ob/\ob.dict=none:=by
 cases x with
 |str z=>
  obtain⟨t,rfl⟩:=r
  cases(show T = "str" from ty)
  exact⟨typeIs_str s z t,λ_ e=>nomatch e⟩
 |int i=>
  obtain⟨t,rfl⟩:=r
  cases(show T = "int" from ty)
  exact⟨Ah s i t,λ_ e=>nomatch e⟩
 |ref p=>
  cases r
  rcases ty with⟨rfl,xs,hq⟩|⟨rfl,o,hk,hc,hd⟩|⟨rfl,hk⟩|⟨rfl,S,n,hk⟩
  ·obtain⟨df,_,pl,_⟩:=I.list hq
   refine⟨pl.isList.typeIs,λa e=>?_⟩
   cases e
   obtain⟨o,n,e,c,hd,_⟩:=pl
   exact⟨o,e,hd⟩
  ·refine⟨⟨o,I.kIn p o hk,hc⟩,λa e=>?_⟩
   cases e
   exact⟨o,I.kIn _ o hk,hd⟩
  ·have z:∃o,s.heap.get? p=some o/\o.ExactDict:=by
    rcases hk with⟨dS,hk⟩|⟨dS,hk⟩
    ·obtain⟨_,_,_,_,o,_,_,e,ex,_⟩:=I.hok p _ hk
     exact⟨o,e,ex⟩
    ·obtain⟨_,_,_,_,o,_,_,e,ex,_⟩:=I.hok p _ hk
     exact⟨o,e,ex⟩
   obtain⟨o,e,ex⟩:=z
   refine⟨⟨o,e,ex.1⟩,λa e2=>?_⟩
   cases e2
   exact⟨o,e,ex.2.1⟩
  ·obtain⟨o,_,_,_,e,ex,_⟩:=I.hok p _ hk
   refine⟨⟨o,e,ex.1⟩,λa e2=>?_⟩
   cases e2
   exact⟨o,e,ex.2.1⟩
 |_=>exact False.elim ty
noncomputable def Od (K:bG)(T:String)(r:V->List V->Hp->VK->Prop)(to:TE)(t:TA):TE:=λσ H Q=>to σ H λx H1=>Jz K T x H1/\t σ H1 λxs H2=>r x xs H2 Q
variable {t:TA}{gE:mZ}{id:String}{r:V->List V->Hp->VK->Prop}
theorem Fc (pa:PlainAttrs T)(slot:Slot T name id)(NI:typeOf (.builtin id)=pure (.type "method_descriptor"))(hm:DT X id r)(ho:PE X o to)(ha:PA X (e::es) t)
  (m7:fB o name X.env (cO o X.env)=cO o X.env:=by rfl)
  (qU:((dq gE (bK (e::es) X.env)).all (λx=>!x.1)&&(gk gE (ek [] X.env)).all (λx=>x.1.isSome)
   && decide ((e::es).length+([]:List lz).length+(if([]:List lz).isEmpty then 0 else 1)<30))=true:=by rfl)
  (m8:(fT.endLine==gE.line)=true:=by rfl) (hs:bK (e::es) X.env=(false,cO e X.env)::bK es X.env:=by rfl) (kX:(dq gE (bK es X.env)).any (·.1)=false:=by rfl) :
  PE X (.Call (.Attribute o name fT) (e::es) [] gE) (Od X.K T r to t):=by
 intro bH s σ H Q I h
 refine wpAny_Call_method_late m7 qU m8 rfl (eL (ho bH s σ H _ I h) λv s1 fk=>?_)
 obtain⟨x,H1,I1,r1,ty,q1⟩:=fk
 obtain⟨h1,h2⟩:=TJ I1 r1 ty
 refine⟨T,id,pa,slot,NI,h1,h2,?_⟩
 have hA:=ha gE bH s1 σ H1 _ I1 q1
 rw[hs]at hA ⊢
 refine Calls.callWith_builtin (by show(false || (dq gE (bK es X.env)).any (·.1))=false;rw[kX]<;>rfl) (Calls.evalArgs_plain ?_)
 exact eL hA λus s2 ⟨vs,H2,I2,r2,q2⟩=>hm bH s2 σ H2 x vs v us Q I2 r1 r2 q2
end
noncomputable def Mx (X:Cx)(id:String)(r:V->List V->Hp->VK->Prop):Prop :=
 ∀(bH:List (bI×gH)) (s:bP) (σ:St) (H:Hp) (x:V) (xs:List V) (v:bC) (us:List bC) (Q:VK),Inv X bH σ H s->RelV x v->c8 xs us->r x xs H Q ->
  ce (cr X.prog X.w) X.A (call (.builtin id) (v::us)) (EP X bH σ Q) X.xe s
theorem c8.one:∀{x:V} {us:List bC},c8 [x] us->∃u,us=[u]/\RelV x u
 |_,_,.cons r .nil=>⟨_,rfl,r⟩
theorem c8.rep {xs:List V}{us:List bC}(h:c8 xs us):∀k:Nat,c8 (bQ k xs).flatten (bQ k us).flatten
 |0=>.nil
 |k+1=>by
  rw[dX,dX,gF,gF]
  exact c8.append h (c8.rep h k)
theorem foldl_rep (df:List bC):∀(k:Nat) (jD:List bC),
  uO (λx1 x2=>x1++x2) jD.toArray (bQ k df.toArray)=(jD++(bQ k df).flatten).toArray
 |0,jD=>by simp
 |k+1,jD=>by
  have e:jD.toArray++df.toArray=(jD++df).toArray:=by simp
  have e2:(jD++df)++(bQ k df).flatten=jD++(bQ (k+1) df).flatten:=by
   rw[dX,gF,dz]
  rw[←e2,←foldl_rep df k (jD++df),←e,dX,lG]
variable {b:bI}{t':Nat}
section
variable {l:bI}{ys zs:List V}
theorem Inv.lset {its':List bC}{f:Array bC->Array bC}(I:Inv X bH σ H s)(hH:H l=some (.lst xs))
    (e:s.heap.get? l=some { cls:=.type "list",data:=.seq df.toArray n }) (hf:f df.toArray=its'.toArray) (hv:c8 ys its') (hz:ys.length<=sizeLine) :
    Inv X bH σ (fM H l (.lst ys)) { s with heap:=s.heap.update l (gH.mapSeq f),toks:=t' }:=by
  have q:=PySem.IsL.update e f
  rw[hf]at q
  refine I.write (x:=l) (e:=l) (by rw[hH];exact trivial) (.inl rfl) (λb' u hb hu=>(rO s.heap (gH.mapSeq f) (Ne.symm hb)).trans hu) ⟨_,q⟩ ?_
  exact⟨hz,its',_,hv,q⟩
theorem Inv.lnew (I:Inv X bH σ H s)(hv:c8 ys df)(hz:ys.length<=sizeLine) :
    Inv X bH σ (fM H s.heap.objs.size (.lst ys)) { s with heap:=s.heap.push { cls:=.type "list",data:=.seq df.toArray },toks:=t' } :=
  I.laid (λ_ _ q=>bE _ q) (bY _) ⟨hz,df,0,hv,bX _ rfl⟩
theorem Inv.fresh (I:Inv X bH σ H s):H s.heap.objs.size=none:=I.hok.fresh (bY _)
theorem Inv.lstM (I:Inv X bH σ H s)(hH:H l=some (.lst xs)):xs.length<=sizeLine/\∃(df:List bC) (n:Nat),c8 xs df/\xs.length=df.length/\s.heap.get? l=some { cls:=.type "list",data:=.seq df.toArray n }:=by
  obtain⟨z,df,n,r,e⟩:=I.hok l _ hH
  exact⟨z,df,n,r,r.length,e⟩
theorem xC (h:n<=sizeLine):Builtin.List.listTooLong n=false:=by
 unfold Builtin.List.listTooLong
 exact decide_eq_false (by omega)
end
noncomputable def zM:V->List V->Hp->VK->Prop:=λx vs H Q=>∃l xs y,x=.ref l/\vs=[y]/\H l=some (.lst xs)/\xs.length<sizeLine/\Q .non (fM H l (.lst (xs++[y])))
theorem J1:Mx X "list.append" zM:=by
 intro bH s σ H x vs v us Q I rx rv h
 obtain⟨l,xs,y,rfl,rfl,hH,hz,q⟩:=h
 cases rx
 obtain⟨u,rfl,ru⟩:=rv.one
 obtain⟨z,df,n,r,hl,e⟩:=I.lstM hH
 refine kP F.slot_list_append ⟨_,e,rfl⟩ F.entry_list_append (F.args_list_append_2 _ _) (PySem.list_append l df.toArray n u (by rw[cm];omega)) ⟨e,?_⟩
 refine⟨.non,_,I.lset (its':=df++[u]) hH e (by simp) (r.append (.cons ru .nil)) ?_,rfl,q⟩
 rw[cv,sN]
 omega
theorem RC (xs:List α)(k:Nat):(bQ k xs).flatten.length=k*xs.length:=by
 induction k with
 |zero=>simp
 |succ k ih=>rw[dX,gF,cv,ih,sO,Nat.add_comm]
variable {E:bC->bP->Prop}
end L2
namespace Att
open PySem PySem.W PySem.Calls PyProof.Rows
theorem j8 {P:Params}{h:bU}:∀(ns:List Int) (vs:List bC),WellAll P h vs (ns.map WData.int)->IntsAre vs ns:=by
 intro ns
 induction ns with
 |nil=>
  intro vs w
  rw[rQ]at w
  cases w
  exact .nil
 |cons n ns ih=>
  intro vs w
  rw[cn]at w
  cases w with
  |cons a b=>
   cases a
   exact .cons _ _ (ih _ b)
theorem PV {l:OpenLaw}{n:Nat}(hn:l.most=some n){P:Params}{h:bU}{args:List WData}{vals:List bC}
    (yT:l.row.toRowW.claim.pre args=true) (Gn:WellAll P h vals args) :
    ∃a vs ns,vals=[bC.ref a]/\args=[WData.list (ns.map WData.int)]/\h.get? a=some { cls:=.type "list",data:=.seq vs.toArray }/\IntsAre vs ns/\ns.length<=n:=by
  have NH:WShape.hasAll [] args [.list .int]=true:=(pre_splitW yT).1
  have hc:l.pre.holds [] { args:=args }=true:=(pre_splitW yT).2
  obtain⟨d,r,rfl,h1,h2⟩:=hasAllW_cons NH
  obtain rfl:=hasAllW_nil h2
  obtain⟨xs,rfl,h3⟩:=hasW_list h1
  obtain⟨ns,rfl⟩:=items_int h3
  have hJ:ns.length<=n:=by
    unfold OpenLaw.pre at hc
    have h4:(WTm.not (.lt (.lit (.int (n:Int))) (.len (.arg 0)))).holds [] { args:=[.list (ns.map .int)] }=true:=by
      have h4:=(holds_andW hc).1
      rw[hn]at h4
      exact h4
    have h5:=condW_of h4 (w_not (w_lt w_lit (w_len_list (w_arg rfl))))
    rw[bN]at h5
    refine Nat.le_of_not_lt λq=>?_
    have q':(n:Int)<((ns.length:Nat):Int):=by omega
    first
      |(rw[decide_eq_true q']at h5;exact absurd h5 (by decide))
      |(simp at h5;omega)
  cases Gn with
  |cons w1 w2=>
    cases w2
    cases w1 with
    |list ho FH=>exact⟨_,_,ns,rfl,rfl,ho,j8 ns _ FH,hJ⟩
theorem PX (l:OpenLaw)(args:List WData):l.row.toRowW.claim.post args (.bool true) args=true :=
  postW_of (r:=l.row.toRowW) (X:=(true==true))
    (show WShape.has [] (.bool true) .bool=true by first|rfl|decide|simp[WShape.has,WShape.arms,WShape.armsAll])
    (show(WTm.eq .res (.lit (.bool true))).value [] { args:=args,res:=some (.bool true),after:=args }=some (.bool (true==true))from w_eq_bool (w_res rfl) w_lit) rfl
theorem attach_call {l:OpenLaw}{n:Nat}{q:dA}{loose:List Str}{XP:(Str->Option bC)->bU->Prop}{YP:cY->bU->Prop}{d:DefRec}
    (hn:l.most=some n) (Cv:d.params.defaults=[])
    (call:∀(w:cY) (s₀ s₁:bP) (mg mb:Str->Option bC) (fa:bI) (o:gH) (pm cd doc:bC) (a:bI) (vs:List bC) (ns:List Int),
      Ground q loose [] XP w s₀ mg mb s₁.heap->YP w s₁.heap ->
      s₁.heap.get? fa=some o->o.data=.func (docDef d.name d.params d.body d.scope pm cd doc)->s₁.heap.CodeRec cd d.name->mg d.name=some (.ref fa) ->
      s₁.heap.get? a=some { cls:=.type "list",data:=.seq vs.toArray }->IntsAre vs ns->ns.length<=n->s₁.gens = #[] ->
      mz (cr l.prog w) pK (.call (.ref fa) ⟨[.ref a],[]⟩) (λr s'=>r=.ok (.ret (.bool true))/\OldK s₁.heap s'.heap/\s'.os=s₁.os/\AllBare s'.gens) s₁) :
    WalkO q loose XP YP l.row.toRowW d [] (λf vs=>PySem.call f vs):=by
  intro w s₀ s₁ mg mb G Y fa o pm cd doc dV kV ho hd kJ hD hmg hg args vals as yT Ny VF Gn VE
  obtain rfl:dV=.none:=Dflts.none hD Cv
  obtain rfl:kV=.none:=Dflts.noKw hD
  obtain⟨a,vs,ns,rfl,rfl,AZ,wV,hJ⟩:=PV hn yT Gn
  refine enter_call (pL (call w s₀ s₁ mg mb fa o pm cd doc a vs ns G Y ho (fd_plain hd) kJ hmg AZ wV hJ hg) λr s' hq=>?_)
  obtain⟨rfl,h2,h3,h4⟩:=hq
  exact⟨.inl ⟨.bool true,.bool true,[],rfl,λ_=>rfl,.bool true,PX l _,λ_=>⟨Ac.nil,λ_ hm=>(nomatch hm)⟩⟩,h2,h3,h4⟩
end Att
namespace L2
open PySem PySem.Spec PyProof.Rows
theorem J2:∀{vs:List bC} {ns:List Int},IntsAre vs ns->c8 (ns.map V.int) vs
 |_,_,.nil=>.nil
 |_,_,.cons n t h=>.cons ⟨t,rfl⟩ (J2 h)
noncomputable def AN (H:Hp):Prop:=∀b,H b=none\/∃o xs,H b=some (.frz o (.lst xs))
variable {CX:xP}{P:dA}{a:bI}{fd:bW}{sp:Sp}{x:Str}
theorem QB {w:cY}{K:bG}{mg mb:Str->Option bC}{k:Nat}{fa:bI}{s₁:bP}{vs:List bC}{ns:List Int}
    (KX:K.In s₁.heap) (vY:s₁.heap.Ns dg mg) (hb:s₁.heap.Ns Ag mb) (Nk:∀x:Str,x≠"__name__"->mb x=dr x) (F6:s₁.heap.NoLimit) (hg:s₁.gens = #[])
    (ha:s₁.heap.get? a=some { cls:=.type "list",data:=.seq vs.toArray }) (hi:IntsAre vs ns) (hl:ns.length<=sizeLine) (hr:eG k pK)
    (F:∀base:bU,K.In base->base.Ns dg mg->dm P w K mg base CX k fa fd [x] sp) (Cq:∀(s:bP) (u:bC),pJ s fd ⟨[u],[]⟩ [(x,u)])
    (Ay:∀H:Hp,AN H->gp K H a (ns.map V.int)->sp [.ref a] H (λv _=>v=.bl true) λ_ _ _=>False)
    (FC:∀H e s',CX [] H s₁ (λ_ _ _=>False) e s'->False) :
    mz (cr P w) pK (.call (.ref fa) ⟨[.ref a],[]⟩) (λr s'=>r=.ok (.ret (.bool true))/\OldK s₁.heap s'.heap/\s'.os=s₁.os/\AllBare s'.gens) s₁:=by
  have rv:=J2 hi
  have Gy:=hi.length
  have core:∀H:Hp,AN H->gp K H a (ns.map V.int)->mU P w H s₁.heap->(∀b,H b≠none->b=a)->(H a≠none->K.lookup a=none) ->
      mz (cr P w) pK (.call (.ref fa) ⟨[.ref a],[]⟩) (λr s'=>r=.ok (.ret (.bool true))/\OldK s₁.heap s'.heap/\s'.os=s₁.os/\AllBare s'.gens) s₁:=by
    intro H hO hS hok hA hK
    have uD:∀{b:bI} {o:gH},s₁.heap.get? b=some o->H b=none->(qV s₁.heap H).get? b=some o:=λe n=>Qs e n
    have C4:∀{b:bI} {o:gH} {es:Array DictEntry} {ep:Nat},s₁.heap.get? b=some o->o.data=.dict es ep->H b=none:=λ{b o es ep} e d=>by
      cases q:H b with
      |none=>rfl
      |some u=>
        have e':b=a:=hA b (by rw[q];simp)
        subst e'
        rw[ha]at e;cases e
        have d':vU.seq vs.toArray _=vU.dict es ep:=d
        cases d'
    have En:∀{b:bI} {m:Str->Option bC},s₁.heap.Ns b m->(qV s₁.heap H).Ns b m:=λ{b m} ⟨o,es,ep,e,d,r⟩=>⟨o,es,ep,uD e (C4 e d),d,r⟩
    have IE:K.In (qV s₁.heap H):=λb o e=>uD (KX b o e) (by
      cases q:H b with
      |none=>rfl
      |some u=>
        have e':b=a:=hA b (by rw[q];simp)
        subst e'
        rw[hK (by rw[q];simp)]at e;cases e)
    have hM:Mod K mg (qV s₁.heap H):=⟨IE,En vY,⟨mb,En hb,Nk⟩,let⟨mc,h1,h2⟩:=F6;⟨mc,En h1,h2⟩⟩
    have e0:sZ P w K mg (qV s₁.heap H) pK [] s₁ H:=⟨rfl,hM,λb o e=>Re e,Nat.le_of_eq (O7 _ _),trivial,λb hb=>absurd (show b∈([]:List bI)from hb) (by simp),hok,.of_eq hg⟩
    refine pL ((F _ IE (En vY)).run pK [] s₁ H ⟨[.ref a],[]⟩ [.ref a] [.ref a] _ _ hr e0 (Cq s₁ (.ref a)) (.cons rfl .nil) (Ay H hO hS)) λr s' h=>?_
    cases r with
    |error e=>exact(FC H e s' h).elim
    |ok fl=>
      cases fl with
      |next=>exact False.elim h
      |brk=>exact False.elim h
      |cont=>exact False.elim h
      |ret u=>
        obtain⟨v,H',os,bare,un,Ge,r',q⟩:=h
        have q':v=.bl true:=q
        subst q'
        obtain rfl:u=bC.bool true:=r'
        refine⟨rfl,OldK.of_keep λb o e=>?_,os,bare⟩
        cases q:H b with
        |none=>exact un.keep b o e q (by intro z;exact absurd (show b∈([]:List bI)from z) (by simp)) (by simp)
        |some u=>
          rcases hO b with z|⟨ob,xs,z⟩
          · rw[q]at z;cases z
          · have z2:=un.frzs b ob _ z
            obtain⟨e1,_⟩:=hok b _ z
            obtain⟨e2,_⟩:=Ge b _ z2
            rw[e]at e1;cases e1
            exact e2
  cases hk:K.lookup a with
  |some o=>
    have e:=KX a o hk
    rw[ha]at e
    cases e
    refine core (λ_=>none) (λ_=>.inl rfl) (.inr ⟨_,vs.toArray,_,hk,rfl,rfl,rfl,by rw[cm,Gy];exact hl,by simpa using rv⟩) (λb u z=>by have z':(none:Option HO)=some u:=z;cases z') (λb z=>absurd rfl z) λz=>absurd rfl z
  |none=>
    refine core (λb=>if b=a then some (.frz { cls:=.type "list",data:=.seq vs.toArray } (.lst (ns.map V.int)))else none) (λb=>?_) (.inl (.inr ⟨{ cls:=.type "list",data:=.seq vs.toArray },if_pos rfl⟩)) (λb u z=>?_) (λb z=>?_) λ_=>hk
    · by_cases hb:b=a
      · exact .inr ⟨_,_,if_pos hb⟩
      · exact .inl (if_neg hb)
    · by_cases hb:b=a
      · have z':=(if_pos hb).symm.trans z
        cases z'
        subst hb
        exact⟨ha,by rw[bN];exact hl,vs,_,rv,ha⟩
      · have z':=(if_neg hb).symm.trans z
        cases z'
    · by_cases hb:b=a
      · exact hb
      · exact absurd (if_neg hb) z
variable {n:Nat}
theorem walk_of {l:nU}{k:Nat}{q:dA}{loose:List Str}{XP:(Str->Option bC)->bU->Prop}{YP:cY->bU->Prop}{d:DefRec}{K:Params->bG}{CX:cY->xP}{sp:cY->Sp}
  (hn:l.most=some n) (Ax:n<=sizeLine) (Cv:d.params.defaults=[]) (hr:eG k pK)
  (hY:∀(w:cY) (h:bU),YP w h->(K w.params).In h)
  (F:∀(w:cY) (mg:Str->Option bC) (fa:bI) (h:bU),(K w.params).In h->h.Ns dg mg->mg d.name=some (.ref fa) ->
   ∃fd:bW,(∀(s:bP) (u:bC),pJ s fd ⟨[u],[]⟩ [(x,u)]) /\
    ∀base:bU,(K w.params).In base->base.Ns dg mg->dm l.prog w (K w.params) mg base (CX w) k fa fd [x] (sp w))
  (Ay:∀(w:cY) (H:Hp) (a:bI) (ns:List Int),ns.length<=n->AN H->gp (K w.params) H a (ns.map V.int)->sp w [.ref a] H (λv _=>v=.bl true) λ_ _ _=>False)
  (FC:∀(w:cY) (H:Hp) (s:bP) (e:bC) (s':bP),CX w [] H s (λ_ _ _=>False) e s'->False) :
  wH q loose XP YP l.row.toRowW d [] (λf vs=>PySem.call f vs):=by
 refine Att.attach_call hn Cv λw s₀ s₁ mg mb fa o pm cd doc a vs ns G Y ho hd kJ hmg AZ wV hJ hg=>?_
 have KX:=hY w _ Y
 obtain⟨fd,hb,hF⟩:=F w mg fa _ KX G.T.g hmg
 exact QB KX G.T.g G.T.b G.T.builtins G.T.nolimit hg AZ wV (dC hJ Ax) hr hF hb (λH hO hS=>Ay w H a ns hJ hO hS) λH e s'=>FC w H s₁ e s'
noncomputable def inClass (s:dH)(j:Nat):dH:=match s with
 |.ClassDef _ _ _ body _ _ _ _ _ _ _=>body.getD j (.Pass ⟨0,0,0,0⟩)
 |_=>.Pass ⟨0,0,0,0⟩
noncomputable def jH (s:dH):Arguments:=match s with
  |.FunctionDef _ a _ _ _ _ _ _ _ _=>a
  |_=>{ posonlyargs:=[],args:=[],vararg:=none,kwonlyargs:=[],kw_defaults:=[],kwarg:=none,defaults:=[] }
noncomputable def fZ (s:dH):List dH:=match s with
 |.FunctionDef _ _ b _ _ _ _ _ _ _=>b
 |_=>[]
noncomputable def cU (s:dH):nD:=match s with
  |.FunctionDef _ _ _ _ _ _ sc _ _ _=>sc
  |_=>{ kind:=.function,names:=[],isGenerator:=false,isCoroutine:=false }
noncomputable abbrev fK:xP:=λ_ _ _ _ _ _=>False
noncomputable abbrev E0:XK:=λ_ _ _=>False
variable {X:Cx}
theorem nc:kx fK X E0:=λ_ _ _ _ _ _ _ h=>h.elim
theorem Me {A:c7}{k:Nat}(hr:eG k A):A.units+1<ox:=nz (Nat.add_le_add_left (by decide:1<=64) _) hr.units
theorem vL (h:n<=1000):n<sizeLine:=nz h (by decide)
noncomputable def cR (H H':Hp):Prop:=∀b o,H b=some o->H' b=some o
theorem cR.refl (H:Hp):cR H H:=λ_ _ h=>h
variable {H:Hp}
theorem cR.trans {H1 H2:Hp}(a:cR H H1)(b:cR H1 H2):cR H H2:=λc o h=>b c o (a c o h)
variable {H':Hp}
theorem cR.free (e:cR H H'){l:bI}(h:H' l=Option.none):H l=Option.none:=by
 cases q:H l with
 |none=>rfl
 |some o=>
  rw[e l o q]at h
  cases h
variable {xs:List V}
theorem cR.seq {K:bG}(e:cR H H')(h:gp K H a xs):gp K H' a xs:=by
 rcases h with(h|⟨o,h⟩)|h
 ·exact .inl (.inl (e _ _ h))
 ·exact .inl (.inr ⟨o,e _ _ h⟩)
 ·exact .inr h
noncomputable def MB (a C:bI)(dx tb:Option bI)(h:bU):Prop :=
  ∃a0,h.get? a=some { cls:=.ref C,dict:=dx,data:=.fields #[a0,tb.elim bC.none .ref,.none,.none,.bool false,.none] }
noncomputable abbrev JE (a C:bI) (dx tb:Option bI):HO:=.ext (MB a C dx tb)
variable {C:bI}{M:Model}{bH:List (bI×gH)}{s:bP}{σ:St}
noncomputable abbrev GK:=St->bI->Hp->Prop
variable {fT p pos:mZ}{ds:List bC}{kF:List V}{e o:Expr}{es:List Expr}{f:bI}{m:Str}{ps:List Str}{ta:TE}
variable {R:Result->bP->Prop}{ab:Bool}{bm sub:List bC}{col:Option Bool}{dd:Option bI}{h:bU}{k0 k1 k2 k3 k5:Option bC}{nm q:Str}{sn:List Str}
variable {E:bC->bP->Prop}
variable {name:Str}
variable {te:TE}
noncomputable abbrev TF:=St->Hp->(Hp->Prop)->Prop
noncomputable def PF (X:Cx)(e:Expr)(n:Nat)(t:TF):Prop:=∀(bH:List (bI×gH)) (s:bP) (σ:St) (H:Hp) (Q:Hp->Prop),Inv X bH σ H s->t σ H Q ->
 ce (cr X.prog X.w) X.A (cO e X.env) (λv s1=>∃y tk H1,v=.str y tk/\y.length<=n/\Inv X bH σ H1 s1/\Q H1) X.xe s
structure An (K:bG)(C:bI):Prop where
 ga:dD K (.ref C) "__getattribute__"=some (some (.builtin "BaseException.__getattribute__"))
 gn:dD K (.ref C) "__getattr__"=some none
 mB:mq K C (.type "BaseException")=some true
 hd:kb K C=true
 ca:dD K (.ref C) "__class__"=some (some (.builtin "object.__class__"))
 cg:gx K (.builtin "object.__class__") "__get__"=some (some (.builtin "getset_descriptor.__get__"))
 ct:nZ K (.builtin "object.__class__")=some true
 mO:mq K C (.type "object")=some true
variable {κ:Type}{u:bC}{vs:List (κ×bC)}{y:V}
section
variable [DecidableEq κ]
noncomputable def lg (dS:List (κ×V))(k:κ):Option V:=(dS.find? λkv=>decide (kv.1=k)).map (·.2)
noncomputable def putK (dS:List (κ×V))(k:κ)(v:V):List (κ×V) :=
 if(dS.any λkv=>decide (kv.1=k))=true then dS.map (λkv=>if kv.1=k then(kv.1,v)else kv)else dS++[(k,v)]
theorem Hl {p:κ×V}{r:List (κ×V)}{k:κ}(e:p.1=k):lg (p::r) k=some p.2:=by simp[lg,dN,e]
theorem Hm {p:κ×V}{r:List (κ×V)}{k:κ}(e:¬p.1=k):lg (p::r) k=lg r k:=by simp[lg,dN,e]
theorem Kx (k:κ):∀dS:List (κ×V),(dS.any λkv=>decide (kv.1=k))=(lg dS k).isSome
 |[]=>rfl
 |p::r=>by
  rw[hG]
  by_cases e:p.1=k
  ·simp only[Hl e,decide_eq_true e,Bool.true_or,Option.isSome_some]
  ·rw[Hm e,decide_eq_false e,Bool.false_or];exact Kx k r
theorem j9 (dS:List (κ×V))(k:κ)(v:V):(putK dS k v).length<=dS.length+1:=by
 unfold putK
 split
 ·rw[bN];omega
 ·rw[cv,bM,jF];omega
theorem m5.isSome_eq {o:Option V}{u:Option bC}(r:m5 o u):o.isSome=u.isSome:=by
 cases o with
 |none=>cases u with
  |none=>rfl
  |some _=>exact(show False from r).elim
 |some _=>cases u with
  |none=>exact(show False from r).elim
  |some _=>rfl
theorem KV.val {dS:List (κ×V)}(r:KV dS vs)(k:κ):m5 (lg dS k) (rT vs k):=by
 unfold KV at r
 induction r with
 |nil=>exact True.intro
 |@cons p q ps qs h t ih=>
  obtain⟨h1,h2⟩:=h
  by_cases e:p.1=k
  ·have e':q.1=k:=h1.symm.trans e
   have b:rT (q::qs) k=some q.2:=by simp[rT,dN,e']
   rw[Hl e,b];exact h2
  ·have e':¬q.1=k:=λz=>e (h1.trans z)
   have b:rT (q::qs) k=rT qs k:=by simp[rT,dN,e']
   rw[Hm e,b];exact ih
theorem KV.any {dS:List (κ×V)}(r:KV dS vs)(k:κ):(dS.any λkv=>decide (kv.1=k))=vs.any λkv=>decide (kv.1=k):=by
 unfold KV at r
 induction r with
 |nil=>rfl
 |cons h t ih=>rw[hG,hG,ih,h.1]
theorem KV.repl {dS:List (κ×V)}(r:KV dS vs)(k:κ)(ry:RelV y u) :
  KV (dS.map λkv=>if kv.1=k then(kv.1,y)else kv) (vs.map λkv=>if kv.1=k then(kv.1,u)else kv):=by
 unfold KV at r ⊢
 induction r with
 |nil=>exact .nil
 |@cons p q ps qs h t ih=>
  rw[cn,cn]
  refine .cons ?_ ih
  obtain⟨h1,h2⟩:=h
  by_cases e:p.1=k
  ·rw[if_pos e,if_pos (h1.symm.trans e)];exact⟨h1,ry⟩
  ·rw[if_neg e,if_neg (λz=>e (h1.trans z))];exact⟨h1,h2⟩
theorem KV.put {dS:List (κ×V)}(r:KV dS vs)(k:κ)(ry:RelV y u):KV (putK dS k y) (stored vs k u):=by
 unfold putK stored
 rw[r.any k]
 by_cases e:(vs.any λkv=>decide (kv.1=k))=true
 ·rw[if_pos e,if_pos e];exact r.repl k ry
 ·rw[if_neg e,if_neg e];exact Paired.snoc r ⟨rfl,ry⟩
theorem KV.length {dS:List (κ×V)}(r:KV dS vs):dS.length=vs.length:=Paired.length r
end
theorem Ii {w:cY}{k:gN}(r:RelV (kV k) u):(gJ P w).is k u=true:=by
 cases k with
 |inl i=>obtain⟨t,e⟩:=(show∃t,u=bC.int i t from r);subst e;exact OX P w i t
 |inr x=>obtain⟨t,e⟩:=(show∃t,u=bC.str x t from r);subst e;exact OY P w x t
theorem J3 {P:dA}{w:cY}:∀{ks:List gN} {us:List bC},c8 (ks.map kV) us->ItemsAre (gJ P w) ks us
 |[],_,r=>by rw[rQ]at r;cases r;exact .nil
 |k::ks,_,r=>by
  rw[cn]at r
  cases r with
  |cons h t=>exact .cons (Ii h) (J3 t)
noncomputable abbrev KT (H:Hp):List (List gN×V)->List (List gN×bI×bC)->Prop:=Paired λp q=>p.1=q.1/\H q.2.1=some (.tup (p.1.map kV))/\RelV p.2 q.2.2
variable {dS:List (List gN×V)}
theorem KT.val {xs:List (List gN×bI×bC)}(r:KT H dS xs)(k:List gN):m5 (lg dS k) ((uS xs k).map (·.2)):=by
 induction r with
 |nil=>exact True.intro
 |@cons p q ps qs h t ih=>
  obtain⟨h1,_,h2⟩:=h
  by_cases e:p.1=k
  ·have e':q.1=k:=h1.symm.trans e
   have b:uS (q::qs) k=some q.2:=by simp[uS,dN,e']
   rw[Hl e,b];exact h2
  ·have e':¬q.1=k:=λz=>e (h1.trans z)
   have b:uS (q::qs) k=uS qs k:=by simp[uS,dN,e']
   rw[Hm e,b];exact ih
theorem KT.repl {xs:List (List gN×bI×bC)}(r:KT H dS xs)(k:List gN)(ry:RelV y u) :
  KT H (dS.map λkv=>if kv.1=k then(kv.1,y)else kv) (xs.map (putAt k u)):=by
 induction r with
 |nil=>exact .nil
 |@cons p q ps qs h t ih=>
  rw[cn,cn]
  refine .cons ?_ ih
  obtain⟨h1,h2,h3⟩:=h
  unfold putAt
  by_cases e:p.1=k
  ·rw[if_pos e,if_pos (h1.symm.trans e)];exact⟨h1,h2,ry⟩
  ·rw[if_neg e,if_neg (λz=>e (h1.trans z))];exact⟨h1,h2,h3⟩
variable {b:bI}
theorem KT.put {xs:List (List gN×bI×bC)}(r:KT H dS xs)(k:List gN)(hb:H b=some (.tup (k.map kV)))(ry:RelV y u) :
  KT H (putK dS k y) (storedH xs k b u):=by
 have e:(dS.any λkv=>decide (kv.1=k))=(uS xs k).isSome:=by
  rw[Kx,(r.val k).isSome_eq,t9]
 unfold putK storedH
 rw[e]
 by_cases q:(uS xs k).isSome=true
 ·rw[if_pos q,if_pos q];exact r.repl k ry
 ·rw[if_neg q,if_neg q];exact Paired.snoc r ⟨rfl,hb,ry⟩
theorem KT.keeps {xs:List (List gN×bI×bC)}(r:KT H dS xs)(ht:∀b ys,H b=some (.tup ys)->H' b=some (.tup ys)):KT H' dS xs :=
 Paired.mapP r λ_ _ z=>⟨z.1,ht _ _ z.2.1,z.2.2⟩
section
variable {w:cY}
theorem Mf {u:HO}(ok:mU P w H h)(e:Rd H a u):fP P w H h a u:=e.ok ok
theorem Ij {dS:List (gN×V)}(ok:mU P w H h)(e:Rd H a (.dK dS)):dS.length<=sizeLine/\(a==fU)=false/\∃vs,KV dS vs/\h.DictOf (gJ P w) a vs :=
 show fP P w H h a (.dK dS)from Mf ok e
theorem UJ {dS:List (gN×V)}(ok:mU P w H h)(e:H a=some (.dK dS)):dS.length<=sizeLine/\(a==fU)=false/\∃vs,KV dS vs/\h.DictOf (gJ P w) a vs:=Ij ok (.inl e)
theorem HR {ks:List gN}(ok:mU P w H h)(e:H a=some (.tup (ks.map kV))):(qF (gJ P w)).is h ks a:=by
 obtain⟨_,df,r,o,h1,h2,n,h3⟩:=(show fP P w H h a (.tup (ks.map kV))from ok a _ e)
 exact⟨o,df.toArray,n,h1,h2,h3,by simpa using J3 r⟩
theorem Mg (ok:mU P w H h)(e:Rd H a (.dT dS)):dS.length<=sizeLine/\(a==fU)=false /\
  ∃xs,KT H dS xs/\h.DictOfH (qF (gJ P w)) a xs:=by
 obtain⟨z,y,xs,r,o,es,ep,h1,h2,h3,h4,h5⟩:=(show fP P w H h a (.dT dS)from Mf ok e)
 refine⟨z,y,xs,r,o,es,ep,h1,h2,h3,h4,λx hx=>?_,h5⟩
 have all:∀{l:List (List gN×V)} {m:List (List gN×bI×bC)},KT H l m->∀x∈m,(qF (gJ P w)).is h x.1 x.2.1:=by
  intro l m q
  induction q with
  |nil=>intro x hx;exact nomatch hx
  |@cons p q ps qs hq t ih=>
   intro x hx
   rcases bL.mp hx with e|hx
   ·subst e
    exact HR ok (by rw[←hq.1];exact hq.2.1)
   ·exact ih x hx
 exact all r x hx
theorem UK (ok:mU P w H h)(e:H a=some (.dT dS)):dS.length<=sizeLine/\(a==fU)=false /\
  ∃xs,KT H dS xs/\h.DictOfH (qF (gJ P w)) a xs:=Mg ok (.inl e)
end
noncomputable def uV (H:Hp)(a:bI)(y:V)(r:Option V):Prop :=
 (∃dS k,Rd H a (.dK dS)/\y=kV k/\r=lg dS k)\/∃dS k b,Rd H a (.dT dS)/\y=.ref b/\H b=some (.tup (k.map kV))/\r=lg dS k
noncomputable def rW (H:Hp)(a:bI)(y v:V)(H':Hp):Prop :=
 (∃dS k,H a=some (.dK dS)/\y=kV k/\dS.length<sizeLine/\H'=fM H a (.dK (putK dS k v))) \/
 ∃dS k b,H a=some (.dT dS)/\y=.ref b/\H b=some (.tup (k.map kV))/\dS.length<sizeLine/\H'=fM H a (.dT (putK dS k v))
theorem uV.k {dS:List (gN×V)}{k:gN}(e:H a=some (.dK dS)):uV H a (kV k) (lg dS k):=.inl ⟨dS,k,.inl e,rfl,rfl⟩
variable {v:V}
theorem rW.k {dS:List (gN×V)}{k:gN}(e:H a=some (.dK dS))(hl:dS.length<sizeLine):rW H a (kV k) v (fM H a (.dK (putK dS k v))):=.inl ⟨dS,k,e,rfl,hl,rfl⟩
theorem rW.t {k:List gN}(e:H a=some (.dT dS))(eb:H b=some (.tup (k.map kV)))(hl:dS.length<sizeLine) :
  rW H a (.ref b) v (fM H a (.dT (putK dS k v))):=.inr ⟨dS,k,b,e,rfl,eb,hl,rfl⟩
variable {Q:bC->bP->Prop}{h':bU}{t':Nat}
section
variable {r:bC}{o:Option V}{A:c7}
theorem Inv.big (I:Inv X bH σ H s):fU<s.heap.objs.size:=by
 have h:dg<s.heap.objs.size:=(I.mod.glob.keeps I.bk).lt
 exact Nat.lt_trans (by decide) h
theorem Fv (hu:A.units+1<ox)(I:Inv X bH σ H s)(g:uV H a y o)(ry:RelV y u)(h:∀s',Inv X bH σ H s'->Q (.bool o.isSome) s') :
  ce (cr X.prog X.w) A (dZ .In u (.ref a)) Q E s:=by
 rcases g with⟨dS,k,e,ey,l⟩|⟨dS,k,b,e,ey,eb,l⟩
 ·subst ey
  obtain⟨z,hd,vs,rel,dd⟩:=Ij I.hok e
  refine wpAny_in_of (Ii ry) hd dd.mapOf ?_
  rw[←(rel.val k).isSome_eq,←l]
  exact h _ (I.tok _)
 ·subst ey
  cases(show u=bC.ref b from ry)
  obtain⟨z,hd,xs,rel,dd⟩:=Mg I.hok e
  refine wpAny_in_heap (tupleKind_room_in1 hu) (HR I.hok eb) hd dd ?_
  have q:=(rel.val k).isSome_eq
  rw[t9]at q
  rw[←q,←l]
  exact h _ (I.tok _)
theorem K5 {ob:HO}(I:Inv X bH σ H s)(mu:B7 (H a))(hs:eS a s.heap h')(he:∃q,h'.get? a=some q)(new:fP X.prog X.w (fM H a ob) h' a ob) :
  Inv X bH σ (fM H a ob) { s with heap:=h',toks:=t' } :=
 I.write (x:=a) (e:=a) mu (.inl rfl) (λb q hb z=>(hs.2 b hb).trans z) he new
theorem tH {w:cY}{dS:List (gN×V)}{vs:List (gN×bC)}(z:dS.length<=sizeLine)(hd:(a==fU)=false)(rel:KV dS vs)(dd:h'.DictOf (gJ P w) a vs) :
  fP P w H' h' a (.dK dS):=⟨z,hd,vs,rel,dd⟩
theorem PY {Q:Unit->bP->Prop}(hu:A.units+1<ox)(I:Inv X bH σ H s)(g:rW H a y v H')(ry:RelV y u)(rv:RelV v r)(h:∀s',Inv X bH σ H' s'->Q () s') :
  ce (cr X.prog X.w) A (rS (.ref a) u r) Q E s:=by
 rcases g with⟨dS,k,e,ey,l,eH⟩|⟨dS,k,b,e,ey,eb,l,eH⟩
 ·subst ey eH
  obtain⟨z,hd,vs,rel,dd⟩:=UJ I.hok e
  have hz:vs.length<=sizeLine:=by rw[←rel.length];exact z
  have hl:(putK dS k v).length<=sizeLine:=by have:=j9 dS k v;omega
  refine wpAny_setItem_pairs (hsz:=hz) (Ii ry) dd λh' DX hs=>h _ ?_
  have he:∃q,h'.get? a=some q:=let⟨q,_,_,hq,_⟩:=DX;⟨q,hq⟩
  exact K5 I (by rw[e];exact True.intro) hs he (tH hl hd (rel.put k rv) DX)
 ·subst ey eH
  cases(show u=bC.ref b from ry)
  obtain⟨z,hd,xs,rel,dd⟩:=UK I.hok e
  have hz:xs.length<=sizeLine:=by rw[←Paired.length rel];exact z
  have hl:(putK dS k v).length<=sizeLine:=by have:=j9 dS k v;omega
  refine wpAny_setItem_heap (hsz:=hz) (tupleKind_room_in1 hu) (HR I.hok eb) dd λh' DX hs=>h _ ?_
  obtain⟨q,es,ep,hq,h2,h3,h4,_,h5⟩:=DX
  refine K5 I (by rw[e];exact True.intro) hs ⟨q,hq⟩ ⟨hl,hd,_,(rel.put k eb rv).keeps λc ys ec=>?_,q,es,ep,hq,h2,h3,h4,h5⟩
  rw[zp (UC ec e (λz=>nomatch z))]
  exact ec
end
section
variable {dS:List (gN×V)}{k:gN}{A:c7}
theorem UL (I:Inv X bH σ H s)(e:Rd H a (.dK dS))(h:∀t s',Inv X bH σ H s'->Q (.int dS.length t) s'):ce (cr X.prog X.w) A (call (.builtin "len") [.ref a]) Q E s:=by
 obtain⟨z,hd,vs,rel,dd⟩:=Ij I.hok e
 refine call_len_dict hd dd (by rw[←rel.length];rw[el]at z;omega) ?_
 rw[←rel.length]
 exact h _ _ (I.tok _)
end
noncomputable def wI (i:Expr):Prop:=∀ov iv,qR i false ov iv=operate [ov,iv] (pM ov iv)
variable {T:String}{value:Expr}
theorem K6 {prog:dA}{w:cY}{A:c7}{env:Env}{slice:Expr}{id:String}
  (hl:typeLookup (.type T) "__getitem__"=pure (some (.builtin id))) (hs:wI slice)
  (h:ce (cr prog w) A (cO value env) (λo s₁=>ce (cr prog w) A (cO slice env) (λi s₂=>s₂.TypeIs o T/\ce (cr prog w) A (pM o i) Q E s₂) E s₁) E s) :
  ce (cr prog w) A (cO (.Subscript value slice pos) env) Q E s:=by
 refine Subscript_ (eW h (λo s₁ h₁=>eW h₁ (λi s₂ h₂=>?_) λ_ _ x=>x) λ_ _ x=>x)
 obtain⟨hT,h₂⟩:=h₂
 unfold subscriptTail
 refine bD ?_
 rw[getitemInPython_of_ne hT.not_modules]
 refine bD (wpAny_specialOf hT hl ?_)
 have fin:ce (cr prog w) A (qR slice false o i) (λr s₃=>ce (cr prog w) A (letTemporaryGo value o r >>= λ_=>pure r) Q E s₃) E s₂:=by
  rw[hs o i]
  exact wpAny_operating (eW h₂ (λr s₃ h₃=>bD (wpAny_letTemporaryGo (b9 h₃))) λ_ _ x=>x)
 first
  |exact b9 (bD fin)
  |exact bD (b9 (bD fin))
  |exact bD fin
noncomputable def GY (ty td:TE):TE:=λσ H Q=>ty σ H λy H1=>td σ H1 λx H2=>∃a o,x=.ref a/\uV H2 a y o/\Q (.bl o.isSome) H2
noncomputable def Do (td ty tv:TE):TS:=λD σ H=>tv σ H λv H1=>td σ H1 λx H2=>ty σ H2 λy H3=>∃a H4,x=.ref a/\rW H3 a y v H4/\D.nx σ H4
variable {pos' mQ:mZ}{ty:TE}
section
variable {i:Expr}{td tv:TE}
theorem TK (hu:X.A.units+1<ox)(hi:PE X i ty)(ho:PE X o td):PC X .In i o (GY ty td):=by
 intro bH s σ H Q I h
 refine eL (hi bH s σ H _ I h) λiv s1 ⟨y,H1,I1,ry,q1⟩=>eL (ho bH s1 σ H1 _ I1 q1) λu s2 fk=>?_
 obtain⟨x,H2,I2,rx,a,ov,ex,g,q2⟩:=fk
 subst ex
 obtain rfl:u=bC.ref a:=rx
 exact Fv hu I2 g ry λs3 I3=>⟨.bl ov.isSome,H2,I3,rfl,q2⟩
theorem RD (hu:X.A.units+1<ox)(ho:PE X o td)(hi:PE X i ty)(hv:PE X value tv)(hs:eI value (some (.Subscript o i pos')) pos.line X.env=pure false) :
  PS X (.Assign [.Subscript o i pos'] value pos) (Do td ty tv):=by
 intro bH s σ H D I h
 refine wpAny_Assign_Subscript (eL (hv bH s σ H _ I h) λr s1 ⟨v,H1,I1,rv,q1⟩=>eL (ho bH s1 σ H1 _ I1 q1) λu s2 ⟨x,H2,I2,rx,q2⟩=>eL (hi bH s2 σ H2 _ I2 q2) λiv s3 ⟨y,H3,I3,ry,a,H4,ex,g,q3⟩=>?_) hs
 subst ex
 obtain rfl:u=bC.ref a:=rx
 exact PY hu I3 g ry rv λs4 I4=>⟨σ,H4,I4,q3⟩
end
theorem QC {w:cY}(h:bU)(hb:fU<h.objs.size):fP P w H (h.push { cls:=.type "dict",data:=.dict #[] }) h.objs.size (.dK []) :=
  ⟨eY _,beq_eq_false_iff_ne.mpr (Ne.symm (cy hb)),[],.nil,bU.DictOf.new h⟩
noncomputable def Bp:TE:=λ_ H Q=>∀p,H p=none->Q (.ref p) (fM H p (.dK []))
theorem QD:PE X (.Dict [] [] pos) Bp:=λbH s σ H Q I h=>
 wpAny_Dict_empty ⟨.ref s.heap.objs.size,_,I.laid (a:=s.heap.objs.size) (o:=.dK []) (t':=s.toks) (λ_ _ q=>bE _ q) (bY _) (QC s.heap I.big),rfl,h _ (I.hok.fresh (bY _))⟩
noncomputable def Mw (H:Hp)(a:bI):Prop:=(∃dS,Rd H a (.dK dS))\/∃dS,Rd H a (.dT dS)
theorem PZ:gB X (.builtin "len") (λxs H Q=>∃a dS,xs=[V.ref a]/\H a=some (.dK dS)/\Q (.int dS.length) H):=by
 intro bH s σ H xs us Q I r h
 obtain⟨a,dS,rfl,ha,q⟩:=h
 obtain⟨u,rfl,ru⟩:=oj r
 cases ru
 exact UL I (.inl ha) λt s' I'=>⟨.int dS.length,H,I',⟨t,rfl⟩,q⟩
noncomputable def Sz (n:Nat)(i:Int):Prop:=i.natAbs<2 ^ n
theorem Sz.bits {i:Int}(h:Sz n i):Builtin.Int.intBits i<=n:=by
 unfold Builtin.Int.intBits
 by_cases h0:(i==0)=true
 ·rw[if_pos h0];exact eY _
 ·rw[if_neg h0]
  have hi:i.natAbs≠0:=by
   have:i≠0:=by simpa using h0
   omega
  exact Nat.succ_le_of_lt ((t6 hi).mpr h)
theorem Sz.log {i:Int}(h:Sz n i)(hn:0<n):i.natAbs.log2<n:=by
 by_cases hi:i.natAbs=0
 ·rw[hi];exact hn
 ·exact(t6 hi).mpr h
theorem Sz.mono {m:Nat}{i:Int}(h:Sz n i)(hm:n<=m):Sz m i:=cF h (t7 (by decide) hm)
noncomputable def qH (i j:Int):Prop:=AM i j\/(Sz 100000 i/\Sz 100000 j)
theorem qH.ok {i j:Int}(h:qH i j):IntMulOk i j:=by
 rcases h with h|h
 ·exact h.ok
 ·exact IntMulOk.of_bits (dC h.1.bits (by decide)) (dC h.2.bits (by decide))
theorem RE:jC X (fH .Mult) (rI qH λi j=>.int (i*j)):=BR λ_ _ _ _ _ _ _ hc q=>mul_int q hc.ok
theorem QE:jC X (fH .FloorDiv) (rI (λ_ j=>j≠0/\Sz 9000 j) λi j=>.int (i.fdiv j)) :=
 BR λ_ _ _ _ _ _ _ hc q=>floordiv_int hc.1 q (.inl (PyProof.noPylong_of_log2 (hc.2.log (by decide))))
theorem RelV.bool_iff {x:V}{v:bC}{b:Bool}(r:RelV x v):(v==bC.bool b)=decide (x=.bl b):=by
 cases x with
 |bl c=>
  cases(show v=bC.bool c from r)
  by_cases h:c=b
  ·subst h;simp
  ·have h1:¬V.bl c=V.bl b:=λz=>h (V.bl.inj z)
   rw[decide_eq_false h1]
   exact beq_eq_false_iff_ne.mpr λz=>h (by injection z)
 |non=>cases(show v=bC.none from r);rw[decide_eq_false (λz=>nomatch z)];exact beq_eq_false_iff_ne.mpr λz=>nomatch z
 |int i=>obtain⟨t,rfl⟩:=(show∃t,v=bC.int i t from r);rw[decide_eq_false (λz=>nomatch z)];exact beq_eq_false_iff_ne.mpr λz=>nomatch z
 |str i=>obtain⟨t,rfl⟩:=(show∃t,v=bC.str i t from r);rw[decide_eq_false (λz=>nomatch z)];exact beq_eq_false_iff_ne.mpr λz=>nomatch z
 |byt i=>obtain⟨t,rfl⟩:=(show∃t,v=bC.bytes i t from r);rw[decide_eq_false (λz=>nomatch z)];exact beq_eq_false_iff_ne.mpr λz=>nomatch z
 |flt i=>obtain⟨t,rfl⟩:=(show∃t,v=bC.float i t from r);rw[decide_eq_false (λz=>nomatch z)];exact beq_eq_false_iff_ne.mpr λz=>nomatch z
 |ref i=>cases(show v=bC.ref i from r);rw[decide_eq_false (λz=>nomatch z)];exact beq_eq_false_iff_ne.mpr λz=>nomatch z
 |ty i=>cases(show v=bC.type i from r);rw[decide_eq_false (λz=>nomatch z)];exact beq_eq_false_iff_ne.mpr λz=>nomatch z
theorem OO {x:V}{v:bC}{b:Bool}(r:RelV x v):plainIs v (.bool b)=true:=by
 cases x with
 |bl c=>cases(show v=bC.bool c from r);rfl
 |non=>cases(show v=bC.none from r);rfl
 |int i=>obtain⟨t,rfl⟩:=(show∃t,v=bC.int i t from r);rfl
 |str i=>obtain⟨t,rfl⟩:=(show∃t,v=bC.str i t from r);rfl
 |byt i=>obtain⟨t,rfl⟩:=(show∃t,v=bC.bytes i t from r);rfl
 |flt i=>obtain⟨t,rfl⟩:=(show∃t,v=bC.float i t from r);rfl
 |ref i=>cases(show v=bC.ref i from r);rfl
 |ty i=>cases(show v=bC.type i from r);rfl
theorem TN:jC X (dZ .Is) (λx y H Q=>∃b,y=.bl b/\Q (.bl (decide (x=.bl b))) H):=by
 intro bH s σ H x y v u Q I rx ry h
 obtain⟨b,rfl,q⟩:=h
 cases ry
 exact wpAny_is_plain (OO rx) (LH I q (RelV.bool_iff rx).symm)
theorem Qe:gB X (.builtin "isinstance") (λxs H Q=>∃x c t b,xs=[x,.ty c]/\mL X.K H x t/\eX X.K t (.type c)=some b/\Q (.bl b) H):=by
 intro bH s σ H xs us Q I r h
 obtain⟨x,c,t,b,rfl,ty,e,q⟩:=h
 obtain⟨u,w',rfl,ru,vG⟩:=vals2 r
 cases(show w'=bC.type c from vG)
 exact JT I ru ty e λtk=>⟨.bl b,H,I.tok tk,rfl,q⟩
theorem P0:gB X (.builtin "isinstance") (λxs H Q=>∃x C t b,xs=[x,.ref C]/\mL X.K H x t/\eX X.K t (.ref C)=some b/\Q (.bl b) H):=by
 intro bH s σ H xs us Q I r h
 obtain⟨x,c,t,b,rfl,ty,e,q⟩:=h
 obtain⟨u,w',rfl,ru,vG⟩:=vals2 r
 cases(show w'=bC.ref c from vG)
 exact JT I ru ty e λtk=>⟨.bl b,H,I.tok tk,rfl,q⟩
mutual
inductive Dt (K:bG)(H:Hp):V->cx->Prop
 |non:Dt K H .non .none
 |bl (b:Bool):Dt K H (.bl b) (.bool b)
 |int (i:Int):Dt K H (.int i) (.int i)
 |str (x:Str):Dt K H (.str x) (.str x)
 |lst {a:bI} {xs:List V} {ds:List cx}:gp K H a xs->Dts K H xs ds->Dt K H (.ref a) (.list ds)
 |tup {a:bI} {xs:List V} {ds:List cx}:lN K H a xs->Dts K H xs ds->Dt K H (.ref a) (.tuple ds)
inductive Dts (K:bG)(H:Hp):List V->List cx->Prop
 |nil:Dts K H [] []
 |cons {v:V} {d:cx} {vs:List V} {ds:List cx}:Dt K H v d->Dts K H vs ds->Dts K H (v::vs) (d::ds)
end
mutual
theorem Dt.reads (I:Inv X bH σ H s):∀{v:V} {d:cx} {u:bC},Dt X.K H v d->RelV v u->∃as,Reads s.heap u d as
 |_,_,_,.non,r=>by cases r;exact⟨_,.none⟩
 |_,_,_,.bl b,r=>by cases r;exact⟨_,.bool b⟩
 |_,_,_,.int i,r=>by obtain⟨t,rfl⟩:=r;exact⟨_,.int i t⟩
 |_,_,_,.str x,r=>by obtain⟨t,rfl⟩:=r;exact⟨_,.str x t⟩
 |_,_,_,.lst hq ds,r=>by
  obtain⟨df,rv,⟨o,n,e,c,_,dd⟩,_⟩:=I.list hq
  obtain⟨as,ra⟩:=Dts.reads I ds rv
  cases r
  exact⟨_,.list e c dd (by simpa using ra)⟩
 |_,_,_,.tup hq ds,r=>by
  obtain⟨df,rv,⟨o,e,c,n,dd⟩,_⟩:=I.tuple hq
  obtain⟨as,ra⟩:=Dts.reads I ds rv
  cases r
  exact⟨_,.tuple e c dd (by simpa using ra)⟩
theorem Dts.reads (I:Inv X bH σ H s):∀{vs:List V} {ds:List cx} {us:List bC},Dts X.K H vs ds->c8 vs us->∃as,ReadsAll s.heap us ds as
 |_,_,_,.nil,r=>by cases r;exact⟨_,.nil⟩
 |_,_,_,.cons h t,r=>by
  cases r with
  |cons p q=>
   obtain⟨as,ra⟩:=Dt.reads I h p
   obtain⟨bs,rb⟩:=Dts.reads I t q
   exact⟨_,.cons ra rb⟩
end
noncomputable def Bh (K:bG)(neg:Bool):R2:=λx y H Q=>∃d e,Dt K H x d/\Dt K H y e/\d.canLay0=true/\e.canLay0=true/\min d.depth e.depth<=60/\Q (.bl (if neg then !cx.eqv d e else cx.eqv d e)) H
theorem HS (hu:X.A.units+64<ox):jC X (dZ .Eq) (Bh X.K false):=by
 intro bH s σ H x y v u Q I rx ry h
 obtain⟨d,e,hd,he,c1,c2,dp,q⟩:=h
 obtain⟨as,ra⟩:=hd.reads I rx
 obtain⟨bs,rb⟩:=he.reads I ry
 exact SeqAt.compareEq_reads ra rb c1 c2 (by omega) ⟨.bl _,H,I,rfl,q⟩
theorem jg (hu:X.A.units+64<ox):jC X (dZ .NotEq) (Bh X.K true):=by
 intro bH s σ H x y v u Q I rx ry h
 obtain⟨d,e,hd,he,c1,c2,dp,q⟩:=h
 obtain⟨as,ra⟩:=hd.reads I rx
 obtain⟨bs,rb⟩:=he.reads I ry
 exact SeqAt.compareNe_reads ra rb c1 c2 (by omega) ⟨.bl _,H,I,rfl,q⟩
theorem Dts.ints (K:bG)(H:Hp):∀ns:List Int,Dts K H (ns.map V.int) (ns.map cx.int)
 |[]=>.nil
 |n::r=>.cons (.int n) (Dts.ints K H r)
theorem xf {p:bI}(h:H p=none)(o:HO):cR H (fM H p o):=λb u q=>by rw[zp (zu q h)];exact q
theorem eG.u64 {k:Nat}{A:c7}(r:eG k A):A.units+64<ox:=r.units
theorem small (h:n<=1000):n<=sizeLine:=nQ (vL h)
section
open PySem
theorem xj:dr "int"=some (.type "int"):=by decide +kernel
theorem wx:dr "str"=some (.type "str"):=by decide +kernel
theorem RF:dr "bool"=some (.type "bool"):=by decide +kernel
theorem ES:dr "list"=some (.type "list"):=by decide +kernel
theorem TQ:dr "len"=some (.builtin "len"):=by decide +kernel
theorem DI:dr "max"=some (.builtin "max"):=by decide +kernel
theorem TU:dr "min"=some (.builtin "min"):=by decide +kernel
theorem uh:dr "isinstance"=some (.builtin "isinstance"):=by decide +kernel
theorem E3:dr "all"=some (.builtin "all"):=by decide +kernel
end
variable {mV iter:Expr}{ifs:List Expr}{scope:nD}
section
variable {prog:dA}{w:cY}{A:c7}
theorem OP {target:Expr}{it jD:bC}{env:Env}(I:Nat->bP->Prop)
  (tY:∀n s,I n s->ce (cr prog w) A (pyNext it) (λr s₁=>match r with
   |none=>R (.ok .next) s₁
   |some v=>ce (cr prog w) A (kd target it v) (λ_ Js=>ce (cr prog w) A (kO target env v) (λ_ s₂=>
     ce (cr prog w) A (forIn ifs true λc r=>if r=true then do let ok ← vW c env (cO c env);pure (ForInStep.yield ok)else pure (ForInStep.yield r)) (λok s₃=>
      if ok=true then ce (cr prog w) A (cO mV env) (λx s₄=>
       ce (cr prog w) A (call (.builtin "list.append") [jD,x]) (λ_ s₅=>∃m,m<n/\I m s₅) (λ_ _=>False) s₄) (λ_ _=>False) s₃
      else∃m,m<n/\I m s₃) (λ_ _=>False) s₂) (λ_ _=>False) Js) (λ_ _=>False) s₁) (λ_ _=>False) s)
  (n:Nat) (h:I n s) :
  mz (cr prog w) A (.compLoop (.ListComp mV [⟨target,iter,ifs,0⟩] scope pos) 0 it jD env) R s:=by
 have up:∀{α:Type} {m:yJ α} {Q:α->bP->Prop} {E:bC->bP->Prop} {s:bP},ce (cr prog w) A m Q (λ_ _=>False) s->ce (cr prog w) A m Q E s:=λh=>eW h (λ_ _ q=>q) λ_ _ f=>f.elim
 refine codeAny_loop rfl I (λn s hI=>?_) n h
 show ce _ A ((compTurn (.ListComp mV [⟨target,iter,ifs,0⟩] scope pos) 0 it jD env).onRaise (λx=>do noteFrame x env;theTreesLotGoes x)) _ _ s
 refine wpAny_noted ?_
 rw[compTurn_list]
 refine bD (oy (bD (eW (up (tY n s hI)) (λr s₁ h₁=>?_) λ_ _ h'=>h')))
 cases r with
 |none=>exact b9 h₁
 |some v=>
  refine bD (eW (up h₁) (λ_ Js NN=>?_) λ_ _ h'=>h')
  refine bD (eW (up NN) (λ_ s₂ h₂=>bD (eW (up h₂) (λok s₃ h₃=>?_) λ_ _ h'=>h')) λ_ _ h'=>h')
  cases ok with
  |false=>exact b9 ⟨rfl,h₃⟩
  |true=>
   exact bD (bD (eW (up h₃) (λx s₄ h₄=>bD (eW (up h₄) (λ_ s₅ h₅=>b9 (b9 ⟨rfl,h₅⟩)) λ_ _ h'=>h')) λ_ _ h'=>h'))
end
theorem u3 {env:Env}:∀(names:List (Str×cD)) (jD:List (Str×bI)),(∀x∈names,x.2=.free->∃c,env.cells.lookup x.1=some c)->(∀y c,jD.lookup y=some c->env.cells.lookup y=some c) ->
  ∃cl,(forIn names jD λ(x:Str×cD) (cs:List (Str×bI))=>if(x.2==cD.free)=true then do let a ← cellOf env x.1;pure (ForInStep.yield ((x.1,a)::cs))else pure (ForInStep.yield cs):yJ (List (Str×bI)))=pure cl /\
   (∀y c,cl.lookup y=some c->env.cells.lookup y=some c)/\(∀x∈names,x.2=.free->∃c,cl.lookup x.1=some c)/\∀y c,jD.lookup y=some c->∃c',cl.lookup y=some c'
 |[],jD,_,ha=>⟨jD,rfl,ha,λ_ h=>(nomatch h),λy c h=>⟨c,h⟩⟩
 |(n,k)::r,jD,hn,ha=>by
  by_cases hk:k=.free
  ·subst hk
   obtain⟨c,hc⟩:=hn (n,.free) bF rfl
   have e1:cellOf env n=pure c:=by unfold cellOf;rw[hc]
   have Nh:∀y d,((n,c)::jD).lookup y=some d->env.cells.lookup y=some d:=λy d h=>by
    rw[cq]at h
    cases hy:y==n with
    |true=>
     rw[hy]at h
     have:y=n:=eq_of_beq hy
     subst this
     cases h
     exact hc
    |false=>rw[hy]at h;exact ha y d h
   obtain⟨cl,h1,h2,h3,h4⟩:=u3 r ((n,c)::jD) (λx hx=>hn x (bJ _ hx)) Nh
   refine⟨cl,?_,h2,?_,?_⟩
   ·rw[gw]
    simp only[beq_self_eq_true,if_true,e1,pure_bind]
    exact h1
   ·intro x hx hf
    rcases bL.mp hx with rfl|hx
    ·exact h4 n c (by rw[cq,beq_self_eq_true])
    ·exact h3 x hx hf
   ·intro y d hy
    cases hb:y==n with
    |true=>exact h4 y c (by rw[cq,hb])
    |false=>exact h4 y d (by rw[cq,hb];exact hy)
  ·have hb:(k==cD.free)=false:=by simpa using hk
   obtain⟨cl,h1,h2,h3,h4⟩:=u3 r jD (λx hx=>hn x (bJ _ hx)) ha
   refine⟨cl,?_,h2,?_,h4⟩
   ·rw[gw]
    simp only[hb,e8,if_false,pure_bind]
    exact h1
   ·intro x hx hf
    rcases bL.mp hx with rfl|hx
    ·exact absurd hf hk
    ·exact h3 x hx hf
theorem EI (n:Nat)(a:Str)(r:List (Str×cD))(jD:List (Str×bI)):cellsFrom n ((a,.cell)::r) jD=cellsFrom (n+1) r ((a,n)::jD):=rfl
theorem E4 {k:cD}(hk:k≠.cell)(n:Nat)(a:Str)(r:List (Str×cD))(jD:List (Str×bI)):cellsFrom n ((a,k)::r) jD=cellsFrom n r jD:=by
 cases k<;>first|rfl|exact absurd rfl hk
noncomputable def lX (names:List (Str×cD)):Nat:=(names.filter λy=>y.2==cD.cell).length
theorem HG (a:Str)(r:List (Str×cD)):lX ((a,.cell)::r)=lX r+1:=by unfold lX;rw[rD (by rfl),bM]
theorem LK {k:cD}(hk:k≠.cell)(a:Str)(r:List (Str×cD)):lX ((a,k)::r)=lX r:=by unfold lX;rw[rC (by simpa using hk)]
theorem BX:∀(names:List (Str×cD)) (n:Nat) (jD:List (Str×bI)) {x:Str} {c:Nat},(cellsFrom n names jD).lookup x=some c->(n<=c/\c<n+lX names/\(x,cD.cell)∈names)\/(jD.lookup x=some c/\(x,cD.cell)∉names)
 |[],_,_,_,_,h=>.inr ⟨h,by simp⟩
 |(a,k)::r,n,jD,x,c,h=>by
  by_cases hk:k=.cell
  ·subst hk
   rw[EI]at h
   rcases BX r (n+1) _ h with⟨h1,h2,h3⟩|⟨h1,h2⟩
   ·refine .inl ⟨by omega,?_,bJ _ h3⟩
    rw[HG];omega
   ·rw[cq]at h1
    cases hx:x==a with
    |true=>
     rw[hx]at h1
     cases h1
     refine .inl ⟨bY _,?_,by rw[eq_of_beq hx];exact bF⟩
     rw[HG];omega
    |false=>
     rw[hx]at h1
     refine .inr ⟨h1,λz=>?_⟩
     rcases bL.mp z with z|z
     ·cases z;simp at hx
     ·exact h2 z
  ·rw[E4 hk]at h
   have hf:=LK hk a r
   rw[hf]
   rcases BX r n _ h with⟨h1,h2,h3⟩|⟨h1,h2⟩
   ·exact .inl ⟨h1,h2,bJ _ h3⟩
   ·refine .inr ⟨h1,λz=>?_⟩
    rcases bL.mp z with z|z
    ·cases z;exact hk rfl
    ·exact h2 z
theorem HU:∀(names:List (Str×cD)) (n:Nat) (jD:List (Str×bI)) {x:Str},(x,cD.cell)∉names->(cellsFrom n names jD).lookup x=jD.lookup x
 |[],_,_,_,_=>rfl
 |(a,k)::r,n,jD,x,h=>by
  have hr:(x,cD.cell)∉r:=λz=>h (bJ _ z)
  by_cases hk:k=.cell
  ·subst hk
   rw[EI,HU r _ _ hr,cq]
   cases hx:x==a with
   |true=>exact absurd (by rw[eq_of_beq hx];exact bF) h
   |false=>rfl
  ·rw[E4 hk,HU r _ _ hr]
theorem HV:∀(names:List (Str×cD)) (n:Nat) (jD:List (Str×bI)),(∀x y c,jD.lookup x=some c->jD.lookup y=some c->x=y)->(∀x c,jD.lookup x=some c->c<n)->∀x y c,(cellsFrom n names jD).lookup x=some c->(cellsFrom n names jD).lookup y=some c->x=y
 |[],_,_,h,_=>h
 |(a,k)::r,n,jD,h,hb=>by
  by_cases hk:k=.cell
  ·subst hk
   rw[EI]
   refine HV r (n+1) _ (λx y c e e'=>?_) λx c e=>?_
   ·rw[cq]at e e'
    cases hx:x==a with
    |true=>
     rw[hx]at e
     cases e
     cases hy:y==a with
     |true=>rw[eq_of_beq hx,eq_of_beq hy]
     |false=>rw[hy]at e';exact absurd (hb _ _ e') (gC _)
    |false=>
     rw[hx]at e
     cases hy:y==a with
     |true=>rw[hy]at e';cases e';exact absurd (hb _ _ e) (gC _)
     |false=>rw[hy]at e';exact h x y c e e'
   ·rw[cq]at e
    cases hx:x==a with
    |true=>rw[hx]at e;cases e;exact lh _
    |false=>rw[hx]at e;exact kC (hb _ _ e)
  ·rw[E4 hk]
   exact HV r n jD h hb
theorem u4 {M:Model}{A:c7}{E:bC->bP->Prop}:∀(names:List (Str×cD)) (cells:List (Str×bI)) (s:bP) (Q:List (Str×bI)->bP->Prop),
    (∀h':bU,(∀b o,s.heap.get? b=some o->h'.get? b=some o)->(∀c,s.heap.objs.size<=c->c<s.heap.objs.size+lX names->h'.IsCell c none)->Q (cellsFrom s.heap.objs.size names cells) { s with heap:=h' }) ->
    ce M A (forIn names cells λ(x:Str×cD) (cells:List (Str×bI))=>if(x.2==cD.cell)=true then do let a ← alloc { cls:=bC.type "cell",data:=vU.cell none };pure (ForInStep.yield ((x.1,a)::cells))else pure (ForInStep.yield cells)) Q E s
  |[],cells,s,Q,h=>by
    have:=h s.heap (λ_ _ e=>e) (λc h1 h2=>by rw[show lX []=0 from rfl]at h2;omega)
    rw[iD]
    exact b9 this
  |(a,k)::r,cells,s,Q,h=>by
    rw[gw]
    by_cases hk:k=.cell
    · subst hk
      simp only[beq_self_eq_true,if_true,bind_assoc,pure_bind]
      refine bD (wpAny_alloc ?_)
      have ih:=u4 (M:=M) (A:=A) (E:=E) r ((a,s.heap.objs.size)::cells) { s with heap:=s.heap.push { cls:=bC.type "cell",data:=vU.cell none } } Q (λh' k1 k2=>by
        have hz:(s.heap.push { cls:=bC.type "cell",data:=vU.cell none }).objs.size=s.heap.objs.size+1:=dE _ _
        have:=h h' (λb o e=>k1 b o (bE _ e)) (λc h1 h2=>by
          rw[HG]at h2
          by_cases hc:c=s.heap.objs.size
          · subst hc
            exact⟨_,k1 _ _ (bX _ rfl),rfl⟩
          · exact k2 c (by show(s.heap.push _).objs.size<=c;rw[hz];omega) (by show c<(s.heap.push _).objs.size+_;rw[hz];omega))
        rw[EI]at this
        have e:(({ s with heap:=s.heap.push { cls:=bC.type "cell",data:=vU.cell none } }:bP)).heap.objs.size=s.heap.objs.size+1:=hz
        rw[e]
        exact this)
      exact ih
    · have hb:(k==cD.cell)=false:=by simpa using hk
      simp only[hb,e8,if_false,pure_bind]
      refine u4 r cells s Q λh' k1 k2=>?_
      have hf:=LK hk a r
      have:=h h' k1 (by rw[hf];exact k2)
      rw[E4 hk]at this
      exact this
variable {qual:Str}
theorem OQ {A:c7}{globals:bI}{closure:List (Str×bI)}{code:bC}{out:Env}{builtins:bI}{Q:Env->bP->Prop}
    (h:∀h':bU,(∀b o,s.heap.get? b=some o->h'.get? b=some o)->h'.Ns s.heap.objs.size (λ_=>none)->(∀c,s.heap.objs.size+1<=c->c<s.heap.objs.size+1+lX scope.names->h'.IsCell c none) ->
      Q (newEnv scope s.heap.objs.size globals (cellsFrom (s.heap.objs.size+1) scope.names closure) qual none code (some out) builtins) { s with heap:=h' }) :
    ce M A (sQ scope globals closure [] qual none code (some out) builtins) Q E s:=by
  unfold sQ
  refine bD (wpAny_alloc ?_)
  have hz:(s.heap.push { cls:=bC.type "dict",data:=vU.dict #[] }).objs.size=s.heap.objs.size+1:=dE _ _
  refine bD (u4 scope.names closure { s with heap:=s.heap.push { cls:=bC.type "dict",data:=vU.dict #[] } } _ λh' k1 k2=>?_)
  have A9:(({ s with heap:=s.heap.push { cls:=bC.type "dict",data:=vU.dict #[] } }:bP)).heap.objs.size=s.heap.objs.size+1:=hz
  rw[A9]at k2 ⊢
  dsimp only
  rw[iD]
  refine bD (b9 (b9 ?_))
  exact h h' (λb o e=>k1 b o (bE _ e)) ((bU.Ns.new s.heap _).keeps k1) k2
noncomputable def lC (X:Cx)(scope:nD)(cl:List (Str×bI))(N:List Str)(C:bI)(fp:List bI)(s₀:bP)(H₀:Hp):Cx :=
 { X with N:=N,s₀:=s₀,H₀:=H₀,env:=compEnvC scope cl C X.env,outer:=X.stack,stack:=X.stack,ex:=fp,fn:=λx=>scope.names.lookup x==some .cell,pn:=[],xe:=λ_ _=>False }
structure mD (X:Cx)(scope:nD)(N:List Str)(own:Nat)(cap:List Nat):Prop where
 kind:scope.kind=.function
 cells:∀x∈scope.names,x.2=.cell->scope.names.lookup x.1=some .cell
 locs:∀x∈scope.names,x.2=.local->scope.names.lookup x.1=some .local
 free:∀x∈scope.names,x.2=.free->X.env.kindOf x.1=some .cell\/X.env.kindOf x.1=some .free
 len:N.length=own+cap.length
 caps:∀(j:Nat) (x:Str),N[own+j]?=some x->∃i,cap[j]?=some i/\X.N[i]?=some x/\(scope.names.lookup x=some .free)
variable {α β:Type}
theorem vg {α β:Type}[BEq α][LawfulBEq α]{x:α}{y:β}:∀{l:List (α×β)},l.lookup x=some y->(x,y)∈l
 |[],h=>by simp at h
 |(a,b)::r,h=>by
  rw[cq]at h
  cases hb:x==a with
  |true=>rw[hb]at h;cases h;rw[eq_of_beq hb];exact bF
  |false=>rw[hb]at h;exact bJ _ (vg h)
theorem jh {env:Env}{x:Str}:∀{names:List (Str×cD)},names.lookup x=some .free ->
  (names.map λ(n,k)=>if(k==cD.free&&env.scope.kind==.function&&env.kindOf n==some .cell)then(n,cD.cell)else(n,k)).lookup x=some .cell \/
  (names.map λ(n,k)=>if(k==cD.free&&env.scope.kind==.function&&env.kindOf n==some .cell)then(n,cD.cell)else(n,k)).lookup x=some .free
 |[],h=>by simp at h
 |(n,k)::r,h=>by
  rw[cq]at h
  rw[cn]
  cases hx:x==n with
  |true=>
   rw[hx]at h
   cases h
   by_cases hc:(cD.free==cD.free&&env.scope.kind==.function&&env.kindOf n==some .cell)=true
   ·left
    simp only[hc,if_true,cq,hx]
   ·right
    simp only[hc,if_false,cq,hx,e8]
  |false=>
   rw[hx]at h
   rcases jh (env:=env) h with q|q
   ·left
    by_cases hc:(k==cD.free&&env.scope.kind==.function&&env.kindOf n==some .cell)=true
    ·simp only[hc,if_true,cq,hx];exact q
    ·simp only[hc,if_false,cq,hx,e8];exact q
   ·right
    by_cases hc:(k==cD.free&&env.scope.kind==.function&&env.kindOf n==some .cell)=true
    ·simp only[hc,if_true,cq,hx];exact q
    ·simp only[hc,if_false,cq,hx,e8];exact q
theorem ui {env:Env}{x:Str}:∀{names:List (Str×cD)},((names.map λ(n,k)=>if(k==cD.free&&env.scope.kind==.function&&env.kindOf n==some .cell)then(n,cD.cell)else(n,k)).lookup x=some .cell \/
  (names.map λ(n,k)=>if(k==cD.free&&env.scope.kind==.function&&env.kindOf n==some .cell)then(n,cD.cell)else(n,k)).lookup x=some .free)->(x,cD.free)∈names\/(x,cD.cell)∈names
 |[],h=>by simp at h
 |(n,k)::r,h=>by
  rw[cn]at h
  cases hx:x==n with
  |true=>
   have e:x=n:=eq_of_beq hx
   by_cases hc:(k==cD.free&&env.scope.kind==.function&&env.kindOf n==some .cell)=true
   ·have:k=.free:=by
     rw[cw,cw]at hc
     exact eq_of_beq hc.1.1
    left
    rw[e,this];exact bF
   ·simp only[hc,if_false,cq,hx,e8]at h
    rcases h with h|h
    ·cases h;right;rw[e];exact bF
    ·cases h;left;rw[e];exact bF
  |false=>
   refine(ui (env:=env) (names:=r) ?_).imp (bJ _) (bJ _)
   by_cases hc:(k==cD.free&&env.scope.kind==.function&&env.kindOf n==some .cell)=true
   ·simpa only[hc,if_true,cq,hx]using h
   ·simpa only[hc,if_false,cq,hx,e8]using h
noncomputable def jQ (σ:St)(cap:List Nat):St:=cap.map λi=>(σ[i]?).join
variable {cap:List Nat}{i j:Nat}
theorem Pj (hj:cap[j]?=some i)(h:(jQ σ cap)[j]?=some (some v)):σ[i]?=some (some v):=by
 unfold jQ at h
 rw[c9,hj]at h
 cases e:σ[i]? with
 |none=>rw[ou,e]at h;cases h
 |some o=>
  rw[ou,e]at h
  cases o with
  |none=>cases h
  |some u=>exact h
variable {fp:List bI}
theorem P1 {cl:List (Str×bI)}{N:List Str}{own:Nat}{h₁:bU}{m₀:Str->Option bC}(B:mD X scope N own cap)(I:Inv X bH σ H s)
    (c1:∀y c,cl.lookup y=some c->X.env.cells.lookup y=some c) (c2:∀x∈scope.names,x.2=.free->∃c,cl.lookup x.1=some c)
    (hf:∀b∈fp,oz X bH H b) (IQ:∀b∈fp,b<s.heap.objs.size) (vY:h₁.Ns s.heap.objs.size m₀) (k:∀b o,s.heap.get? b=some o->h₁.get? b=some o)
    (wU:∀c,s.heap.objs.size+1<=c->c<s.heap.objs.size+1+lX scope.names->h₁.IsCell c none) :
    Inv (lC X scope (cellsFrom (s.heap.objs.size+1) scope.names cl) N s.heap.objs.size fp s H) [] (bQ own none++jQ σ cap) H { s with heap:=h₁,toks:=t' } :=
  have low:∀x c,cl.lookup x=some c->c<s.heap.objs.size:=λx c e=>by
    obtain⟨v,o,q,_⟩:=I.cell x c (c1 x c e)
    exact bR q
  { ok:={
      mod:=I.mod
      kind:=B.kind
      glob:=I.ok.glob
      blt:=I.ok.blt
      above:=bY _
      inj:=HV _ _ _ (λx y c e e'=>I.ok.inj x y c (c1 x c e) (c1 y c e')) λx c e=>kC (low x c e)
      has:=λx hx=>by
        refine pU.mp (kQ scope.names _ _ ?_)
        rcases ui hx with q|q
        · right
          obtain⟨c,e⟩:=c2 _ q rfl
          rw[e];rfl
        · exact .inl (B.cells _ q rfl)
      cab:=λx c e e'=>by
        have hx:scope.names.lookup x=some .cell:=eq_of_beq e
        rcases BX _ _ _ e' with⟨h1,_⟩|⟨_,h2⟩
        · exact nR h1
        · exact absurd (vg hx) h2
      hd:=I.ok.hd
      frames:=I.ok.frames
      stk:=.inl rfl
      exf:=λb hb=>⟨cy (IQ b hb),λx c e=>by
        rcases BX _ _ _ e with⟨h1,_⟩|⟨h1,_⟩
        · exactλz=>absurd (IQ b hb) (by rw[←z];exact Nat.not_lt.mpr (nR h1))
        · exact(hf b hb).2.2.2.2.1 x c (c1 x c h1)⟩
      bs:=I.bs
      bsz:=dC I.ok.bsz I.sz
      noex:=λb o e hb=>by
        rcases(hf b hb).2.2.2.1 with q|q
        · exact I.ok.noex b o e q
        · exact absurd (cF (bR e) I.ok.bsz) (Nat.not_lt.mpr q)
      exfs:=λb hb hz=>by
        rcases bL.mp (I.stkSub b hz)with q|q
        · exact(hf b hb).2.1 q
        · exact(hf b hb).2.2.1 q
      funs:=I.stack
      frf:=I.stkFree }
    os:=rfl
    bare:=I.bare
    base:=Un.kept k
    loc:=by
      refine⟨m₀,vY,λi x v hN hσ hv=>?_⟩
      by_cases hi:i<own
      · rw[gO (by rw[fu];exact hi),kS,if_pos hi]at hσ
        cases hσ
      · obtain⟨j,rfl⟩:∃j,i=own+j:=⟨i-own,by omega⟩
        obtain⟨i',e1,e2,e3⟩:=B.caps j x hN
        rw[ka (by rw[fu];omega),fu,Nat.add_sub_cancel_left]at hσ
        have Bb:=Pj e1 hσ
        have hk:=B.free (x,.free) (vg e3) rfl
        obtain⟨m,hm,hl⟩:=I.loc
        obtain⟨u,ru,hu⟩:=hl i' x v e2 Bb (.inr hk)
        refine⟨u,ru,?_⟩
        rcases hu with⟨q,_⟩|⟨_,c,hc,ic⟩
        · rcases hk with hk|hk
          · rw[hk]at q;cases q
          · rw[hk]at q;cases q
        · obtain⟨c',Av⟩:=c2 (x,.free) (vg e3) rfl
          have ec:=c1 x c' Av
          rw[hc]at ec
          cases ec
          have hn:(x,cD.cell)∉scope.names:=λz=>by
            have:=B.cells _ z rfl
            rw[e3]at this
            cases this
          exact .inr ⟨jh e3,c,by show(cellsFrom _ _ _).lookup x=_;rw[HU _ _ _ hn];exact Av,ic.keeps k⟩
    cell:=λx c e=>by
      rcases BX _ _ _ e with⟨h1,h2,_⟩|⟨h1,_⟩
      · exact⟨none,wU c h1 h2⟩
      · obtain⟨v,q⟩:=I.cell x c (c1 x c h1)
        exact⟨v,q.keeps k⟩
    free:=I.hok.fresh (bY _)
    freeC:=λx c e=>by
      rcases BX _ _ _ e with⟨h1,_⟩|⟨h1,_⟩
      · exact I.hok.fresh (nR h1)
      · exact I.freeC x c (c1 x c h1)
    pin:=λp hp=>(nomatch hp)
    hok:=I.hok.kept k
    len:=by
      show(bQ own none++jQ σ cap).length=N.length
      rw[cv,fu,B.len]
      unfold jQ
      rw[bN] }
noncomputable def zS:TT:=λ_ H Q=>Q true H
noncomputable def Aj (X:Cx)(ifs:List Expr)(t:TT):Prop :=
 ∀(bH:List (bI×gH)) (s:bP) (σ:St) (H:Hp) (Q:Bool->Hp->Prop),Inv X bH σ H s->t σ H Q ->
  ce (cr X.prog X.w) X.A (forIn ifs true λc r=>if r=true then do let ok ← vW c X.env (cO c X.env);pure (ForInStep.yield ok)else pure (ForInStep.yield r)) (TP X bH σ Q) X.xe s
theorem RG:Aj X [] zS:=λ_ _ _ H _ I h=>wpAny_tests_nil ⟨H,I,h⟩
variable {c:Expr}
theorem RH {t:TT}(h:PT X c t):Aj X [c] t:=λbH s σ H Q I q=>wpAny_tests_one (h bH s σ H Q I q)
noncomputable def uM (wi:TI)(own:Nat)(cap:List Nat)(g:TG)(tt:TT)(te:TE):TE:=λσ H Q=>wi σ H λJ H1=>∀D,H1 D=none->∃W:Nat->Nat->List V->Hp->Prop,(∃m,W 0 m [] (fM H1 D (.lst []))) /\
 ∀i m ys H2,W i m ys H2->H2 D=some (.lst ys)/\((J.stop i H2/\Q (.ref D) H2)\/(J.go i H2/\ys.length<sizeLine/\∀x H3,J.yld i H2 x H3->g x (bQ own none++jQ σ cap) H3 λσ2 H4=>tt σ2 H4 λb H5=>
  if b=true then te σ2 H5 λy H6=>H6 D=some (.lst ys)/\∃m',m'<m/\W (i+1) m' (ys++[y]) (fM H6 D (.lst (ys++[y])))else∃m',m'<m/\W (i+1) m' ys H5))
noncomputable def iN (own:Nat)(g:TG):Prop:=∀v σ H Q,g v σ H Q->g v σ H λσ' H'=>Q σ' H'/\σ'.length = σ.length/\∀i,own<=i->σ'[i]? = σ[i]?
theorem Pk (i own:Nat)(h:i<own):iN own (uF i):=λv σ H Q q=>⟨q,by rw[lH],λj hj=>by rw[i8 (by omega)]⟩
variable {g:TG}{tg:Expr}{tt:TT}{wi:TI}
theorem Ky {QV:VK}{use:Option (bC->yJ Unit)}{Q0:bC->bP->Prop}{GJ:mZ}{N:List Str}{own:Nat}{c:Prop}(B:mD X scope N own cap)(hc:c)(hi:Cc X c tg iter wi)
    (kg:iN own g)
    (hg:∀cl C fp s₀ H₀,PG (lC X scope cl N C fp s₀ H₀) tg g) (ht:∀cl C fp s₀ H₀,Aj (lC X scope cl N C fp s₀ H₀) ifs tt) (he:∀cl C fp s₀ H₀,PE (lC X scope cl N C fp s₀ H₀) mV te)
    (hs:∀x,ed iter X.env x=pure x) (I:Inv X bH σ H s) (h:uM wi own cap g tt te σ H QV)
    (fin:∀(D C:bI) (H5:Hp) (s6:bP) (r:Flow),QV (.ref D) H5->Inv X bH σ H5 s6->oz X bH H5 C->(∃m,s6.heap.Ns C m)->compPost (cr X.prog X.w) X.A X.xe use Q0 (.ref D) C (.ok r) s6) :
    ce (cr X.prog X.w) X.A (comprehension (.ListComp mV [⟨tg,iter,ifs,0⟩] scope pos) scope X.env GJ (newList []) false (cO iter X.env) use) Q0 X.xe s:=by
  obtain⟨cl,Nn,c1,c2,_⟩:=u3 (env:=X.env) scope.names [] (λx hx hf=>I.ok.has x.1 (B.free x hx hf)) (λy c e=>by simp at e)
  have Cu:closureFor scope X.env=pure cl:=by
    have e:closureFor scope X.env=(forIn scope.names ([]:List (Str×bI)) (λ(x:Str×cD) (cs:List (Str×bI))=>if(x.2==cD.free)=true then do let a ← cellOf X.env x.1;pure (ForInStep.yield ((x.1,a)::cs))else pure (ForInStep.yield cs)) >>= pure:yJ (List (Str×bI))):=rfl
    rw[e,Nn]
    rfl
  refine wpAny_comprehension_free (use:=use) rfl hs Cu B.kind B.locs (eL (hi bH s σ H _ I h) λv s1 h1=>eL h1 λGs s2 h2=>?_)
  obtain⟨it,fp,tn,J,H2,e,I2,⟨Cs,T,hT⟩,yC,f2,W0⟩:=h2
  subst e
  obtain⟨W,⟨m0,w0⟩,tY⟩:=W0 s2.heap.objs.size (I2.hok.fresh (bY _))
  refine lA ?_
  have I3:Inv X bH σ (fM H2 s2.heap.objs.size (.lst [])) { s2 with heap:=s2.heap.push { cls:=.type "list",data:=.seq ([]:List bC).toArray } }:=I2.lnew .nil (eY _)
  generalize IX:({ s2 with heap:=s2.heap.push { cls:=.type "list",data:=.seq ([]:List bC).toArray } }:bP)=s3 at I3
  have k3:∀b o,s2.heap.get? b=some o->s3.heap.get? b=some o:=λb o e=>by rw[←IX];exact bE _ e
  have z3:s3.heap.objs.size=s2.heap.objs.size+1:=by rw[←IX];exact dE _ _
  have AV:∀b∈fp,b<s2.heap.objs.size:=λb hb=>by
    obtain⟨o,e,_⟩:=T.obj _ _ yC b hb
    exact bR e
  have mN:∀b∈fp,b≠s2.heap.objs.size:=λb hb=>cy (AV b hb)
  have f3:∀b∈fp,oz X bH (fM H2 s2.heap.objs.size (.lst [])) b:=λb hb=>⟨by rw[zp (mN b hb)];exact(f2 b hb).1,(f2 b hb).2⟩
  have Oj:tn 0 s3.heap:=T.keep _ _ _ yC λb _ o e=>k3 b o e
  show ce _ _ (sQ scope X.env.globals cl [] X.env.qual none .none (some X.env)) _ _ _
  refine OQ λh₁ kk Gc FM=>?_
  have IB:=P1 (t':=s3.toks) B I3 c1 c2 f3 (λb hb=>by rw[z3];exact kC (AV b hb)) Gc kk FM
  generalize cellsFrom (s3.heap.objs.size+1) scope.names cl=cl at IB ⊢
  generalize NF:({ s3 with heap:=h₁,toks:=s3.toks }:bP)=s4 at IB
  have Jx:tn 0 s4.heap:=T.keep _ _ _ Oj λb _ o e=>by rw[←NF];exact kk b o e
  show mz (cr X.prog X.w) X.A (.compStart (.ListComp mV [⟨tg,iter,ifs,0⟩] scope pos) 0 (.ref it) (.ref s2.heap.objs.size) (compEnvC scope cl s3.heap.objs.size X.env))
      (compPost (cr X.prog X.w) X.A X.xe use Q0 (.ref s2.heap.objs.size) s3.heap.objs.size) s4
  have tX:∀{H':Hp},(∀b∈fp,H' b=none)->∀b∈fp,oz (lC X scope cl N s3.heap.objs.size fp s3 (fM H2 s2.heap.objs.size (.lst []))) [] H' b:=λhn b hb=>
    ⟨hn b hb,cy (by show b<s3.heap.objs.size;rw[z3];exact kC (AV b hb)),IB.ok.exfs b hb,.inl hb,λx c e=>(IB.ok.exf b hb).2 x c e,λp hp=>(nomatch hp)⟩
  have loop:mz (cr X.prog X.w) X.A (.compLoop (.ListComp mV [⟨tg,iter,ifs,0⟩] scope pos) 0 (.ref it) (.ref s2.heap.objs.size) (compEnvC scope cl s3.heap.objs.size X.env))
      (compPost (cr X.prog X.w) X.A X.xe use Q0 (.ref s2.heap.objs.size) s3.heap.objs.size) s4:=by
    refine OP (λn s'=>∃i ys H',Inv (lC X scope cl N s3.heap.objs.size fp s3 (fM H2 s2.heap.objs.size (.lst []))) [] (bQ own none++jQ σ cap) H' s'/\tn i s'.heap/\(∀b∈fp,H' b=none)/\W i n ys H') ?_ m0
      ⟨0,[],_,IB,Jx,λb hb=>(f3 b hb).1,w0⟩
    rintro n s5 ⟨i,ys,H5,I5,BS,D0,w5⟩
    obtain⟨hD,Nu⟩:=tY i n ys H5 w5
    rcases Nu with⟨stop,qn⟩|⟨go,o7,step⟩
    · refine eL (T.done (lC X scope cl N s3.heap.objs.size fp s3 (fM H2 s2.heap.objs.size (.lst []))) rfl rfl rfl (hT hc _ rfl rfl) i [] s5 _ H5 (λ_ _=>False) I5 (tX D0) BS stop) λr s6 fk=>?_
      obtain⟨hr,I6⟩:=fk
      subst hr
      obtain⟨m,hm,_⟩:=id I6.loc
      refine fin s2.heap.objs.size s3.heap.objs.size H5 s6 _ qn ?_ (I3.fpOk (bY _) I6.free) ⟨m,hm⟩
      have sb:eS s3.heap.objs.size s6.heap s6.heap:=⟨rfl,λ_ _=>rfl⟩
      have U:=I6.base
      have nC:∀b o,s3.heap.get? b=some o->b≠s3.heap.objs.size:=λb o e=>cy (bR e)
      have nT:∀b o,H5 b=some o->b≠s3.heap.objs.size:=λb o e z=>by
        have q:H5 s3.heap.objs.size=none:=I6.free
        rw[z,q]at e
        cases e
      refine I3.call' (ch:=fp) I6.os ?_ (λa o e=>(I6.hok a o e).stay (λb u hb q=>sb.extBut b u ?_ q) (λ_ q=>q) λ_ _ q=>q) I6.bare (λb hb=>⟨(f3 b hb).2.2.2.1,(f3 b hb).2.1,(f3 b hb).2.2.2.2.1,(f3 b hb).2.2.2.2.2⟩)
      · exact{
          keep:=λb o e z hb he=>sb.extBut b o (nC b o e) (U.keep b o e z hb he)
          slot:=λb o e z hb he=>by
            obtain⟨sl,q⟩:=U.slot b o e z hb he
            exact⟨sl,sb.extBut b _ (nC b o e) q⟩
          free:=U.free
          there:=λb o e he=>by
            obtain⟨o',q⟩:=U.there b o e he
            exact⟨o',sb.extBut b o' (nC b o e) q⟩
          tups:=U.tups
          frzs:=U.frzs
          tbls:=U.tbls }
      · rcases hb with rfl|hb
        · exact nT _ _ e
        · exact nT _ _ hb
    · refine eL (T.item (lC X scope cl N s3.heap.objs.size fp s3 (fM H2 s2.heap.objs.size (.lst []))) rfl rfl rfl (hT hc _ rfl rfl) i [] s5 _ H5 (λ_ _=>False) I5 (tX D0) BS go) λr s6 fk=>?_
      obtain⟨u,hr,h6⟩:=fk
      subst hr
      refine eL h6 λ_ s7 fk=>?_
      obtain⟨x,H7,I7,r7,y7,GV,M1⟩:=fk
      have Mv:=I7.pinned (tX M1) (T.obj _ _ GV)
      refine eL (hg cl s3.heap.objs.size fp s3 _ _ s7 _ H7 x u _ Mv r7 (kg _ _ _ _ (step x H7 y7))) λ_ s8 fk=>?_
      obtain⟨σ8,H8,I8,q8,l8,p8⟩:=fk
      have back:∀{H9:Hp} {s9:bP},Inv (lC X scope cl N s3.heap.objs.size fp s3 (fM H2 s2.heap.objs.size (.lst []))) ([]++pv fp s7.heap) σ8 H9 s9 ->
          Inv (lC X scope cl N s3.heap.objs.size fp s3 (fM H2 s2.heap.objs.size (.lst []))) [] (bQ own none++jQ σ cap) H9 s9/\tn (i+1) s9.heap/\∀b∈fp,H9 b=none:=λ{H9 s9} I9=>by
        refine⟨(I9.unpinned).weak l8.symm (λj v e=>?_),T.keep _ _ _ GV λb hb o e=>(I9.pin (b,o) (bZ _ (bZ _ (ve hb e)))).1,λb hb=>?_⟩
        · by_cases hj:j<own
          · rw[gO (by rw[fu];exact hj),kS,if_pos hj]at e
            cases e
          · rw[p8 j (by omega)];exact e
        · obtain⟨o,e,d⟩:=T.obj _ _ GV b hb
          exact(I9.pin (b,o) (bZ _ (bZ _ (ve hb e)))).2.1
      refine eL (ht cl s3.heap.objs.size fp s3 _ _ s8 σ8 H8 _ I8 q8) λok s9 fk=>?_
      obtain⟨H9,I9,q9⟩:=fk
      cases ok with
      |false=>
        rw[if_neg bV]
        rw[if_neg bV]at q9
        obtain⟨m',CG,w'⟩:=q9
        obtain⟨b1,b2,b3⟩:=back I9
        exact⟨m',CG,i+1,ys,H9,b1,b2,b3,w'⟩
      |true=>
        rw[if_pos rfl]
        rw[if_pos rfl]at q9
        refine eL (he cl s3.heap.objs.size fp s3 _ _ s9 σ8 H9 _ I9 q9) λuy N6 fk=>?_
        obtain⟨y,Im,Ms,r10,FD,m',CG,w'⟩:=fk
        refine eL (J1 _ N6 σ8 Im (.ref s2.heap.objs.size) [y] (.ref s2.heap.objs.size) [uy] (λ_ Io=>Io=fM Im s2.heap.objs.size (.lst (ys++[y]))) Ms rfl (.cons r10 .nil) ⟨_,ys,y,rfl,rfl,FD,o7,rfl⟩) λ_ VN fk=>?_
        obtain⟨_,Io,Mt,_,MD⟩:=fk
        subst MD
        obtain⟨b1,b2,b3⟩:=back Mt
        exact⟨m',CG,i+1,ys++[y],_,b1,b2,b3,w'⟩
  exact codeAny_compStart_list loop (T.self X.A 0 s4 _ _ Jx loop)
theorem RI {N:List Str}{own:Nat}{c:Prop}(B:mD X scope N own cap)(hc:c)(hi:Cc X c tg iter wi)
  (kg:iN own g)
  (hg:∀cl C fp s₀ H₀,PG (lC X scope cl N C fp s₀ H₀) tg g) (ht:∀cl C fp s₀ H₀,Aj (lC X scope cl N C fp s₀ H₀) ifs tt) (he:∀cl C fp s₀ H₀,PE (lC X scope cl N C fp s₀ H₀) mV te)
  (hs:∀x,ed iter X.env x=pure x:=by intro _;rfl):PE X (.ListComp mV [⟨tg,iter,ifs,0⟩] scope pos) (uM wi own cap g tt te):=by
 intro bH s σ H Q I h
 rw[eval_ListComp]
 refine Ky (use:=none) (Q0:=EP X bH σ Q) B hc hi kg hg ht he hs I h λD C H5 s6 r q I6 fo hm=>?_
 obtain⟨m,hm⟩:=hm
 obtain⟨f0,f1,f2,f3,f4,f5⟩:=fo
 exact⟨m,hm,λh' sb=>⟨.ref D,H5,I6.turned (t':=s6.toks) (it:=C) (λb o hb e=>sb.extBut b o hb e) f0 f1 f3 f4 f5,rfl,q⟩⟩
variable {ch:List bI}
theorem Inv.turnLay {o:HO}(I:Inv X bH σ H s)(oS:∀b∈ch,oz X bH H b)(k:∀b o,b∉ch->s.heap.get? b=some o->h'.get? b=some o)(hp:s.heap.objs.size<=a)
  (new:fP X.prog X.w (fM H a o) h' a o):Inv X bH σ (fM H a o) { s with heap:=h',toks:=t' }:=by
 have hn:H a=none:=I.hok.fresh hp
 have C3:∀b u,H b=some u->b∉ch:=λb u e z=>by rw[(oS b z).1]at e;cases e
 refine I.step (g':=s.gens) (d':=s.drawn) (ch:=ch) (λb hb=>⟨(oS b hb).2.2.2.1,(oS b hb).2.1,(oS b hb).2.2.2.2.1,(oS b hb).2.2.2.2.2⟩) (λb o _ _ hc e _=>k b o hc e) (λb o _ _ hc e _=>⟨o.slots,k b o hc e⟩)
  (λb o _ e n=>by rw[zp (cy (cF (bR e) hp))];exact n) (λb o hc e=>⟨o,k b o hc e⟩) (λb xs q=>by rw[zp (zu q hn)];exact q) (λb u xs q=>by rw[zp (zu q hn)];exact q)
  (λb ps q=>⟨#[],by rw[zp (zu q hn),q];simp⟩) (λm hm=>?_) (λb u e=>?_) I.bare
 ·obtain⟨o',es,ep,ho,r⟩:=hm
  exact⟨o',es,ep,k _ o' (λz=>(oS _ z).2.1 rfl) ho,r⟩
 ·by_cases hb:b=a
  ·subst hb
   rw[zw]at e
   cases e
   exact new
  ·rw[zp hb]at e
   refine(I.hok b u e).stay (λc v hc q=>k c v ?_ q) (λc q=>by rw[zp (zu q hn)];exact q) λc xs q=>by rw[zp (zu q hn)];exact q
   rcases hc with z|z
   ·rw[z];exact C3 b u e
   ·exact C3 c _ z
theorem Inv.turnedL (I:Inv X bH σ H s)(oS:∀b∈ch,oz X bH H b)(k:∀b o,b∉ch->s.heap.get? b=some o->h'.get? b=some o):Inv X bH σ H { s with heap:=h',toks:=t' }:=by
 have C3:∀b u,H b=some u->b∉ch:=λb u e z=>by rw[(oS b z).1]at e;cases e
 refine I.step (g':=s.gens) (d':=s.drawn) (ch:=ch) (λb hb=>⟨(oS b hb).2.2.2.1,(oS b hb).2.1,(oS b hb).2.2.2.2.1,(oS b hb).2.2.2.2.2⟩) (λb o _ _ hc e _=>k b o hc e) (λb o _ _ hc e _=>⟨o.slots,k b o hc e⟩)
  (λ_ _ _ _ n=>n) (λb o hc e=>⟨o,k b o hc e⟩) (λ_ _ e=>e) (λ_ _ _ e=>e) (λb ps e=>⟨#[],by rw[e];simp⟩) (λm hm=>?_) (λb u e=>?_) I.bare
 ·obtain⟨o',es,ep,ho,r⟩:=hm
  exact⟨o',es,ep,k _ o' (λz=>(oS _ z).2.1 rfl) ho,r⟩
 ·refine(I.hok b u e).stay (λc v hc q=>k c v ?_ q) (λ_ q=>q) λ_ _ q=>q
  rcases hc with z|z
  ·rw[z];exact C3 b u e
  ·exact C3 c _ z
noncomputable def Fj (K:bG)(a:bI):It :=
 ⟨λi H=>∃xs x,gp K H a xs/\xs[i]?=some x,λi H x H'=>∃p y,H p=none/\x=.ref p/\H'=fM H p (.tup [.int i,y])/\∀xs,gp K H a xs->xs[i]?=some y,λi H=>∃xs,gp K H a xs/\xs.length<=i⟩
variable {oA:List Expr}{kt:Nat}
theorem P2 {w:cY}{K:bG}{pt:mZ}(a e it:bI)(IP:e≠it) :
    Turn P w K (.Tuple oA kt pt) (Fj K a) [e,it] e (λi h=>(∃old,IsEnum h e it i old)/\h.IsListIter it a i) where
  mem:=by simp
  obj:=λi h st b hb=>by
    obtain⟨⟨old,he⟩,o,e1,c,d⟩:=st
    rcases bL.mp hb with rfl|hb
    · exact⟨_,he,λv z=>by cases z⟩
    · have e2:b=it:=by simpa using hb
      subst e2
      exact⟨o,e1,λv z=>by rw[d]at z;cases z⟩
  keep:=λi h h' st k=>by
    obtain⟨⟨old,he⟩,hit⟩:=st
    exact⟨⟨old,k e (by simp) _ he⟩,hit.at λo x=>k it (by simp) o x⟩
  item:=by
    intro X hP hw hK hc i bH s σ H E I hf st hg
    subst hP hw hK
    obtain⟨xs,x,hq,hx⟩:=hg
    obtain⟨df,rv,p,hz⟩:=I.list hq
    obtain⟨u,hu,ru⟩:=rv.get hx
    obtain⟨⟨old,he⟩,hit⟩:=st
    refine wpAny_pyNext_enum_item he hit p.isList (x:=u) (by simpa using hu) IP λh1 ho FY hT hsz hk=>?_
    refine⟨_,rfl,wpAny_letOwnedTupleGo_enum (s:={ s with heap:=h1,toks:=s.toks+1 }) ho λh2 Cw rL=>?_⟩
    have mV:e<s.heap.objs.size:=bR he
    have CS:it<s.heap.objs.size:=by obtain⟨_,q,_⟩:=hit;exact bR q
    have Cm:h2.get? s.heap.objs.size=some { cls:=.type "tuple",data:=.seq #[.int i s.toks,u] }:=(rL.2 _ (gP mV)).trans hT
    have Cy:H s.heap.objs.size=none:=I.hok.fresh (bY _)
    have I1:Inv X bH σ (fM H s.heap.objs.size (.tup [.int i,x])) { s with heap:=h2,toks:=s.toks+1 }:=by
      refine I.turnLay (ch:=[e,it]) hf (λb o hb q=>?_) (bY _) ⟨by show 2<=sizeLine;decide,[.int i s.toks,u],.cons ⟨_,rfl⟩ (.cons ru .nil),_,Cm,rfl,_,rfl⟩
      have Iy:b≠e:=λz=>hb (by simp[z])
      have M8:b≠it:=λz=>hb (by simp[z])
      exact(rL.2 b Iy).trans (hk b o Iy M8 q)
    refine⟨.ref s.heap.objs.size,_,I1,rfl,⟨_,x,Cy,rfl,rfl,λys hy=>by rw[I.list_inj hy hq];exact hx⟩,⟨⟨u,by simpa using Cw⟩,FY.at λo q=>(rL.2 it IP.symm).trans q⟩,λb hb=>?_⟩
    rw[zp ?_]
    · exact(hf b hb).1
    · rcases bL.mp hb with rfl|hb
      · exact cy mV
      · have e2:b=it:=by simpa using hb
        rw[e2];exact cy CS
  done:=by
    intro X hP hw hK hc i bH s σ H E I hf st hg
    subst hP hw hK
    obtain⟨xs,hq,hx⟩:=hg
    obtain⟨df,rv,p,hz⟩:=I.list hq
    obtain⟨⟨old,he⟩,hit⟩:=st
    have hl:=rv.length
    exact wpAny_pyNext_enum_end (I.ok.hd hc) he hit p.isList (by simp;omega) λh' eb=>⟨rfl,I.turnedL (ch:=[e,it]) (t':=s.toks) hf λb o hb q=>eb b o (λz=>hb (by simp[z])) q⟩
  self:=λ_ _ _ _ _ st h=>wpAny_pyIter_enum st.1.choose_spec h
variable {l:Expr}
section
variable {pt:mZ}
noncomputable def CN (K:bG)(ta:TA):TI:=λσ H R=>ta σ H λvs H1=>∃a,vs=[.ref a]/\(∃xs,gp K H1 a xs)/\R (Fj K a) H1
theorem RJ {ta:TA}(hg:Gl X "enumerate")(hm:X.mg "enumerate"=none)(ha:PA X [l] ta)(hs:bK [l] X.env=[(false,cO l X.env)]:=by rfl) :
  PI X (.Tuple oA kt pt) (.Call (.Name "enumerate" p) [l] [] pos) (CN X.K ta):=by
 intro bH s σ H R I h
 refine Call_ (j0 I hg hm PyProof.Rows.boot_enumerate (eF (eL (ha pos bH s σ H _ I h) λus s1 ⟨vs,H1,I1,r1,q1⟩=>?_) hs rfl))
 obtain⟨a,e,⟨xs,hq⟩,q⟩:=q1
 subst e
 cases r1 with
 |cons r rr=>
  cases rr
  cases r
  obtain⟨df,rv,pl,hz⟩:=I1.list hq
  refine call_enumerate_list pl.isList λh' he hit hsz hk=>?_
  refine wpAny_pyIter_enum (s:={ s1 with heap:=h' }) he ?_
  refine⟨s1.heap.objs.size+1,[s1.heap.objs.size+1,s1.heap.objs.size],_,_,H1,rfl,I1.kept (t':=s1.toks) hk,(P2 a _ _ (Nat.succ_ne_self _)).ok,⟨⟨_,he⟩,hit⟩,λb hb=>?_,q⟩
  rcases bL.mp hb with rfl|hb
  ·exact I1.fpOk (t5 _) (I1.hok.fresh (t5 _))
  ·have e:b=s1.heap.objs.size:=by simpa using hb
   subst e
   exact I1.fpOk (bY _) (I1.hok.fresh (bY _))
end
section
open PySem
noncomputable def B6 (K:bG)(a:bI)(xs:List V):Prop:=∃(o:gH) (df:Array bC) (n:Nat),K.lookup a=some o/\o.cls=.type "tuple"/\o.data=.seq df n/\df.size<=sizeLine/\c8 xs df.toList
theorem cR.rd {u:HO}(e:cR H H')(h:Rd H a u):Rd H' a u:=h.elim (λh=>.inl (e _ _ h)) λh=>.inr (h.elim λo h=>⟨o,e _ _ h⟩)
end
end L2
namespace PySem
variable {A:c7}{prog:dA}{w:cY}
end PySem
namespace L2
open PySem PyProof.Rows
variable {X:Cx}{cap:List Nat}{mV iter tg:Expr}{g:TG}{i:Nat}{ifs:List Expr}{pos pos':mZ}{scope:nD}{te:TE}{tt:TT}{wi:TI}{x:Str}
theorem Pl {sI:mZ}{N:List Str}{own:Nat}(B:mD X scope N own cap)(hc:X.calm=true)(hi:PI X tg iter wi)
  (kg:iN own g)
  (hg:∀cl C fp s₀ H₀,PG (lC X scope cl N C fp s₀ H₀) tg g) (ht:∀cl C fp s₀ H₀,Aj (lC X scope cl N C fp s₀ H₀) ifs tt) (he:∀cl C fp s₀ H₀,PE (lC X scope cl N C fp s₀ H₀) mV te)
  (hN:X.N.Nodup) (Cz:X.N[i]?=some x) (hx:Loc X.env.scope x) (yV:eI (.ListComp mV [⟨tg,iter,ifs,0⟩] scope pos) (some (.Name x pos')) sI.line X.env=pure true)
  (hs:∀x,ed iter X.env x=pure x:=by intro _;rfl) (hf:X.fn x=true\/X.env.scope.names.lookup x=some .local:=by first|exact .inl rfl|exact .inr rfl|assumption) :
  PS X (.Assign [.Name x pos'] (.ListComp mV [⟨tg,iter,ifs,0⟩] scope pos) sI) (Bn (uM wi own cap g tt te) (uF i)):=by
 intro bH s σ H D I h
 rw[exec_Assign_Name_used _ _ _ _ yV]
 refine bD (oy (bD ?_))
 show ce _ X.A (do let _ ← comprehension (.ListComp mV [⟨tg,iter,ifs,0⟩] scope pos) scope X.env _ (newList []) false (cO iter X.env) (some (kO (.Name x pos') X.env))) _ _ s
 refine bD (eW (Ky (use:=some (kO (.Name x pos') X.env)) (Q0:=λ_ s'=>∃σ' H',Inv X bH σ' H' s'/\D.nx σ' H') B hc hi kg hg ht he hs I h λDa C H5 s6 r q I6 fo hm=>?_) (λ_ s' hq=>b9 (b9 hq)) λ_ _ e=>e)
 show ce _ X.A (kO (.Name x pos') X.env (.ref Da)) _ _ _
 refine wpAny_assign_Name (JR (v:=.ref Da) I6 hN Cz hx rfl (λs7 I7 NG=>?_) hf)
 obtain⟨m,hm⟩:=hm
 obtain⟨a,sb,ha⟩:=NG
 obtain⟨f0,f1,f2,f3,f4,f5⟩:=fo
 have mN:C≠a:=by
  rcases ha with rfl|ha
  ·exact f1
  ·exactλz=>f4 x a ha z.symm
 refine⟨m,hm.sameBut sb mN,λh' N9=>⟨_,H5,I7.turned (t':=s7.toks) (it:=C) (λb o hb e=>N9.extBut b o hb e) f0 f1 f3 f4 f5,q⟩⟩
variable {oA:List Expr}{kt:Nat}
variable {e:Expr}{p2:mZ}
variable {C f:bI}{CX:xP}{fT p:mZ}{es:List Expr}{fd:bW}{m:Str}{o:Expr}{ps:List Str}{sp:Sp}{ta:TE}
variable {E Q:bC->bP->Prop}{l1 l2 l3:bI}{s:bP}{u:bC}{ys:Array bC}
section
open PySem PySem.Spec PyProof.Rows
theorem Ox (a b c:bC):checkTypeCall "zip" ⟨[a,b,c],[]⟩=pure ():=by kernel_rfl
theorem OR (a b c:bC):checkBuiltinCall "zip.__new__" ⟨[.type "zip",a,b,c],[]⟩=pure ():=by kernel_rfl
theorem P3 (a b c d:bC):argsOk "object.__init__" ⟨[a,b,c,d],[]⟩:=by
 unfold argsOk;rw[signature?_of (id:="object.__init__") (n:=['_','_','t','i','n','i','_','_']) (o:=['t','c','e','j','b','o']) (by kernel_rfl) F.owner_object];kernel_rfl
noncomputable abbrev iM (h:bU) (T:bI) (a b c:bC):Prop:=h.get? T=some { cls:=.type "tuple",data:=.seq #[a,b,c] }
structure Z3 (z TI TO i1 i2 i3 l1 l2 l3:bI):Prop where
 TIz:TI≠z
 TOz:TO≠z
 i1z:i1≠z
 i2z:i2≠z
 i3z:i3≠z
 TITO:TI≠TO
 TIi1:TI≠i1
 TIi2:TI≠i2
 TIi3:TI≠i3
 TOi1:TO≠i1
 TOi2:TO≠i2
 TOi3:TO≠i3
 i12:i1≠i2
 i13:i1≠i3
 i23:i2≠i3
 l1z:l1≠z
 l2z:l2≠z
 l2TO:l2≠TO
 l2i1:l2≠i1
 l3z:l3≠z
 l3TO:l3≠TO
 l3i1:l3≠i1
 l3i2:l3≠i2
section
variable {prog:dA}{w:cY}{A:c7}{z TI TO i1 i2 i3:bI}{xs zs:Array bC}{k1 k2 k3:Nat}
theorem xK {T:bI}{a b c x:bC}{k:Nat}{Q:Unit->bP->Prop}(hT:iM s.heap T a b c)
    (h:∀h',h'.get? T=some { cls:=.type "tuple",data:=.seq ((#[a,b,c]:Array bC).setIfInBounds k x) }->eS T s.heap h'->Q () { s with heap:=h' }) :
    ce (cr prog w) A (updateSeq T (·.setIfInBounds k x)) Q E s:=by
  refine wpAny_updateSeq hT rfl (h _ ?_ (eS.update ..))
  rw[lP _ hT rfl]
  simp[gH.mapSeq]
theorem PB {x y a b c:bC}(D:Z3 z TI TO i1 i2 i3 l1 l2 l3)
    (hz:IsZip s.heap z TI TO .none) (tI:iM s.heap TI (.ref i1) (.ref i2) (.ref i3)) (tJ:iM s.heap TO a b c)
    (h1:s.heap.IsListIter i1 l1 k1) (h2:s.heap.IsListIter i2 l2 k2) (h3:s.heap.IsListIter i3 l3 k3) (oB:s.heap.IsList l1 xs) (mW:s.heap.IsList l2 ys) (wW:s.heap.IsList l3 zs) (hx:xs[k1]?=some x) (hy:ys[k2]?=some y) (hu:zs[k3]?=some u)
    (hQ:∀h',IsZip h' z TI TO (rawInt s.heap.objs.size)->iM h' TO x y u->h'.IsListIter i1 l1 (k1+1)->h'.IsListIter i2 l2 (k2+1)->h'.IsListIter i3 l3 (k3+1)->iM h' s.heap.objs.size x y u ->
      (∀c o,c≠z->c≠TO->c≠i1->c≠i2->c≠i3->s.heap.get? c=some o->h'.get? c=some o)->Q (.ref s.heap.objs.size) { s with heap:=h' }) :
    ce (cr prog w) A (Builtin.«zip.__next__» ⟨[.ref z],[]⟩) (λfin s'=>∃v,fin=.done (.ret v)/\Q v s') E s:=by
  show ce _ _ (field (.ref z) 2 >>= _) _ _ _
  refine bD (wpAny_field hz rfl (x:=.bool false) rfl ?_)
  show ce _ _ (field (.ref z) 3 >>= _) _ _ _
  refine bD (wpAny_field hz rfl (x:=.ref TI) rfl ?_)
  refine bD (wpAny_seqItems tI rfl ?_)
  show ce _ _ (Builtin.SmallTypes.ownedTupleIsFree (.ref z) >>= _) _ _ _
  refine bD ?_
  unfold Builtin.SmallTypes.ownedTupleIsFree
  refine bD (wpAny_field hz rfl (x:=.none) rfl (b9 ?_))
  simp only[if_true]
  refine bD (wpAny_rule ?_)
  refine bD (wpAny_field hz rfl (x:=.ref TO) rfl ?_)
  refine bD (wpAny_setField_rec hz (by simp) λh₁ zA oT=>?_)
  replace zA:IsZip h₁ z TI TO .ellipsis:=zA
  refine bD ?_
  simp only[kU,lJ,gw,iD]
  refine bD (bD (wpAny_onRaise ?_))
  show ce _ _ (Builtin.SmallTypes.nextOf (.ref i1) >>= _) _ _ _
  refine bD (wpAny_nextOf_list_item (h1.extBut oT.extBut D.i1z) (oB.extBut oT.extBut D.l1z) hx λh₂ Iz o8=>b9 ?_)
  have wO:iM h₂ TO a b c:=o8.extBut _ _ D.TOi1 (oT.extBut _ _ D.TOz tJ)
  refine bD (wpAny_seqItems wO rfl ?_)
  refine bD (xK wO λh₃ tK pP=>?_)
  replace tK:iM h₃ TO x b c:=tK
  refine bD (wpAny_letGo (b9 ?_))
  refine bD (bD (wpAny_onRaise ?_))
  show ce _ _ (Builtin.SmallTypes.nextOf (.ref i2) >>= _) _ _ _
  refine bD (wpAny_nextOf_list_item (((h2.extBut oT.extBut D.i2z).extBut o8.extBut D.i12.symm).extBut pP.extBut D.TOi2.symm)
    (((mW.extBut oT.extBut D.l2z).extBut o8.extBut D.l2i1).extBut pP.extBut D.l2TO) hy λh₄ IA sS=>b9 ?_)
  have wQ:iM h₄ TO x b c:=sS.extBut _ _ D.TOi2 tK
  refine bD (wpAny_seqItems wQ rfl ?_)
  refine bD (xK wQ λh₅ yO tL=>?_)
  replace yO:iM h₅ TO x y c:=yO
  refine bD (wpAny_letGo (b9 ?_))
  refine bD (bD (wpAny_onRaise ?_))
  show ce _ _ (Builtin.SmallTypes.nextOf (.ref i3) >>= _) _ _ _
  refine bD (wpAny_nextOf_list_item (((((h3.extBut oT.extBut D.i3z).extBut o8.extBut D.i13.symm).extBut pP.extBut D.TOi3.symm).extBut sS.extBut D.i23.symm).extBut tL.extBut D.TOi3.symm)
    (((((wW.extBut oT.extBut D.l3z).extBut o8.extBut D.l3i1).extBut pP.extBut D.l3TO).extBut sS.extBut D.l3i2).extBut tL.extBut D.l3TO) hu λh₆ Na yW=>b9 ?_)
  have Co:iM h₆ TO x y c:=yW.extBut _ _ D.TOi3 yO
  refine bD (wpAny_seqItems Co rfl ?_)
  refine bD (xK Co λh₇ yP yX=>?_)
  replace yP:iM h₇ TO x y u:=yP
  refine bD (wpAny_letGo (b9 (b9 ?_)))
  refine bD (wpAny_seqItems yP rfl ?_)
  refine bD (wpAny_newTuple ?_)
  have hsz:h₇.objs.size=s.heap.objs.size:=by rw[yX.1,yW.1,tL.1,sS.1,pP.1,o8.1,oT.1]
  have Jg:IsZip h₇ z TI TO .ellipsis:=yX.extBut _ _ D.TOz.symm (yW.extBut _ _ D.i3z.symm (tL.extBut _ _ D.TOz.symm (sS.extBut _ _ D.i2z.symm (pP.extBut _ _ D.TOz.symm (o8.extBut _ _ D.i1z.symm zA)))))
  have Nx:∀c o,c≠z->c≠TO->c≠i1->c≠i2->c≠i3->s.heap.get? c=some o->h₇.get? c=some o:=λc o c1 c2 c3 c4 c5 e=>
    yX.extBut _ _ c2 (yW.extBut _ _ c5 (tL.extBut _ _ c2 (sS.extBut _ _ c4 (pP.extBut _ _ c2 (o8.extBut _ _ c3 (oT.extBut _ _ c1 e))))))
  have M7:h₇.IsListIter i1 l1 (k1+1):=((((Iz.extBut pP.extBut D.TOi1.symm).extBut sS.extBut D.i12).extBut tL.extBut D.TOi1.symm).extBut yW.extBut D.i13).extBut yX.extBut D.TOi1.symm
  have M9:h₇.IsListIter i2 l2 (k2+1):=((IA.extBut tL.extBut D.TOi2.symm).extBut yW.extBut D.i23).extBut yX.extBut D.TOi2.symm
  have Nb:h₇.IsListIter i3 l3 (k3+1):=Na.extBut yX.extBut D.TOi3.symm
  have wX:z<h₇.objs.size:=bR Jg
  show ce _ _ (Builtin.SmallTypes.ownedTupleHandOut (.ref z) (.ref h₇.objs.size) >>= _) _ _ _
  refine bD ?_
  unfold Builtin.SmallTypes.ownedTupleHandOut
  have NM:IsZip (h₇.push { cls:=.type "tuple",data:=.seq #[x,y,u] }) z TI TO .ellipsis:=bE _ Jg
  refine bD (wpAny_setField_rec NM (by simp) λh₉ Gq IZ=>?_)
  replace Gq:IsZip h₉ z TI TO (rawInt h₇.objs.size):=Gq
  refine wpAny_setField_rec Gq (by simp) λha Ec IY=>?_
  replace Ec:IsZip ha z TI TO (rawInt h₇.objs.size):=Ec
  have up:∀c o,c≠z->h₇.get? c=some o->ha.get? c=some o:=λc o c1 e=>IY.extBut _ _ c1 (IZ.extBut _ _ c1 (bE _ e))
  have IF:iM ha h₇.objs.size x y u:=IY.extBut _ _ (gP wX) (IZ.extBut _ _ (gP wX) (bX _ rfl))
  rw[hsz]at Ec IF
  refine b9 ⟨_,rfl,?_⟩
  show Q (.ref h₇.objs.size) _
  rw[hsz]
  exact hQ ha Ec (up _ _ D.TOz yP) (M7.at λo e=>up _ o D.i1z e) (M9.at λo e=>up _ o D.i2z e) (Nb.at λo e=>up _ o D.i3z e) IF λc o c1 c2 c3 c4 c5 e=>up c o c1 (Nx c o c1 c2 c3 c4 c5 e)
theorem Qf {a b c:bC}{Q:Fin->bP->Prop}(hh:A.handled=none)(D:Z3 z TI TO i1 i2 i3 l1 l2 l3)
  (hz:IsZip s.heap z TI TO .none) (tI:iM s.heap TI (.ref i1) (.ref i2) (.ref i3)) (tJ:iM s.heap TO a b c)
  (h1:s.heap.IsListIter i1 l1 k1) (h2:s.heap.IsListIter i2 l2 k2) (h3:s.heap.IsListIter i3 l3 k3) (oB:s.heap.IsList l1 xs) (mW:s.heap.IsList l2 ys) (wW:s.heap.IsList l3 zs) (qT:xs[k1]?=none\/ys[k2]?=none\/zs[k3]?=none)
  (hE:∀h' e,(∀c o,c≠z->c≠TO->c≠i1->c≠i2->c≠i3->s.heap.get? c=some o->h'.get? c=some o)->(∃o,h'.get? e=some o/\o.cls=.type "StopIteration")->E (.ref e) { s with heap:=h' }) :
  ce (cr prog w) A (Builtin.«zip.__next__» ⟨[.ref z],[]⟩) Q E s:=by
 show ce _ _ (field (.ref z) 2 >>= _) _ _ _
 refine bD (wpAny_field hz rfl (x:=.bool false) rfl ?_)
 show ce _ _ (field (.ref z) 3 >>= _) _ _ _
 refine bD (wpAny_field hz rfl (x:=.ref TI) rfl ?_)
 refine bD (wpAny_seqItems tI rfl ?_)
 show ce _ _ (Builtin.SmallTypes.ownedTupleIsFree (.ref z) >>= _) _ _ _
 refine bD ?_
 unfold Builtin.SmallTypes.ownedTupleIsFree
 refine bD (wpAny_field hz rfl (x:=.none) rfl (b9 ?_))
 simp only[if_true]
 refine bD (wpAny_rule ?_)
 refine bD (wpAny_field hz rfl (x:=.ref TO) rfl ?_)
 refine bD (wpAny_setField_rec hz (by simp) λh₁ zA oT=>?_)
 replace zA:IsZip h₁ z TI TO .ellipsis:=zA
 refine bD ?_
 simp only[kU,lJ,gw,iD]
 refine bD (bD (wpAny_onRaise ?_))
 show ce _ _ (Builtin.SmallTypes.nextOf (.ref i1) >>= _) _ _ _
 cases hx:xs[k1]? with
 |none=>
  refine bD (wpAny_nextOf_list_end hh (h1.extBut oT.extBut D.i1z) (oB.extBut oT.extBut D.l1z) hx λh₂ e o8 he=>?_)
  obtain⟨oe,qX,uG⟩:=he
  have Jd:IsZip h₂ z TI TO .ellipsis:=o8 _ _ D.i1z.symm zA
  have yR:e≠z:=λx=>by subst x;rw[Jd]at qX;cases qX;simp at uG
  refine wpAny_setField_rec Jd (by simp) λh₃ _ pP=>hE h₃ e (λc o c1 _ c3 _ _ x=>pP.extBut _ _ c1 (o8 _ _ c3 (oT.extBut _ _ c1 x))) ⟨oe,pP.extBut _ _ yR qX,uG⟩
 |some x=>
  have qT:ys[k2]?=none\/zs[k3]?=none:=by rcases qT with h|h;rw[hx]at h;cases h;exact h
  refine bD (wpAny_nextOf_list_item (h1.extBut oT.extBut D.i1z) (oB.extBut oT.extBut D.l1z) hx λh₂ Iz o8=>b9 ?_)
  have wO:iM h₂ TO a b c:=o8.extBut _ _ D.TOi1 (oT.extBut _ _ D.TOz tJ)
  refine bD (wpAny_seqItems wO rfl ?_)
  refine bD (xK wO λh₃ tK pP=>?_)
  replace tK:iM h₃ TO x b c:=tK
  refine bD (wpAny_letGo (b9 ?_))
  refine bD (bD (wpAny_onRaise ?_))
  show ce _ _ (Builtin.SmallTypes.nextOf (.ref i2) >>= _) _ _ _
  cases hy:ys[k2]? with
  |none=>
   refine bD (wpAny_nextOf_list_end hh (((h2.extBut oT.extBut D.i2z).extBut o8.extBut D.i12.symm).extBut pP.extBut D.TOi2.symm)
    (((mW.extBut oT.extBut D.l2z).extBut o8.extBut D.l2i1).extBut pP.extBut D.l2TO) hy λh₄ e sS he=>?_)
   obtain⟨oe,qX,uG⟩:=he
   have Je:IsZip h₄ z TI TO .ellipsis:=sS _ _ D.i2z.symm (pP.extBut _ _ D.TOz.symm (o8.extBut _ _ D.i1z.symm zA))
   have yR:e≠z:=λx=>by subst x;rw[Je]at qX;cases qX;simp at uG
   refine wpAny_setField_rec Je (by simp) λh₅ _ tL=>hE h₅ e (λc o c1 c2 c3 c4 _ x=>tL.extBut _ _ c1 (sS _ _ c4 (pP.extBut _ _ c2 (o8.extBut _ _ c3 (oT.extBut _ _ c1 x))))) ⟨oe,tL.extBut _ _ yR qX,uG⟩
  |some y=>
   have hu:zs[k3]?=none:=by rcases qT with h|h;rw[hy]at h;cases h;exact h
   refine bD (wpAny_nextOf_list_item (((h2.extBut oT.extBut D.i2z).extBut o8.extBut D.i12.symm).extBut pP.extBut D.TOi2.symm)
    (((mW.extBut oT.extBut D.l2z).extBut o8.extBut D.l2i1).extBut pP.extBut D.l2TO) hy λh₄ IA sS=>b9 ?_)
   have wQ:iM h₄ TO x b c:=sS.extBut _ _ D.TOi2 tK
   refine bD (wpAny_seqItems wQ rfl ?_)
   refine bD (xK wQ λh₅ yO tL=>?_)
   refine bD (wpAny_letGo (b9 ?_))
   refine bD (bD (wpAny_onRaise ?_))
   show ce _ _ (Builtin.SmallTypes.nextOf (.ref i3) >>= _) _ _ _
   refine bD (wpAny_nextOf_list_end hh (((((h3.extBut oT.extBut D.i3z).extBut o8.extBut D.i13.symm).extBut pP.extBut D.TOi3.symm).extBut sS.extBut D.i23.symm).extBut tL.extBut D.TOi3.symm)
    (((((wW.extBut oT.extBut D.l3z).extBut o8.extBut D.l3i1).extBut pP.extBut D.l3TO).extBut sS.extBut D.l3i2).extBut tL.extBut D.l3TO) hu λh₆ e yW he=>?_)
   obtain⟨oe,qX,uG⟩:=he
   have Jf:IsZip h₆ z TI TO .ellipsis:=yW _ _ D.i3z.symm (tL.extBut _ _ D.TOz.symm (sS.extBut _ _ D.i2z.symm (pP.extBut _ _ D.TOz.symm (o8.extBut _ _ D.i1z.symm zA))))
   have yR:e≠z:=λx=>by subst x;rw[Jf]at qX;cases qX;simp at uG
   refine wpAny_setField_rec Jf (by simp) λh₇ _ yX=>hE h₇ e (λc o c1 c2 c3 c4 c5 x=>yX.extBut _ _ c1 (yW _ _ c5 (tL.extBut _ _ c2 (sS.extBut _ _ c4 (pP.extBut _ _ c2 (o8.extBut _ _ c3 (oT.extBut _ _ c1 x))))))) ⟨oe,yX.extBut _ _ yR qX,uG⟩
theorem Pm {x y a b c:bC}{Q:Option bC->bP->Prop}(D:Z3 z TI TO i1 i2 i3 l1 l2 l3)
  (hz:IsZip s.heap z TI TO .none) (tI:iM s.heap TI (.ref i1) (.ref i2) (.ref i3)) (tJ:iM s.heap TO a b c)
  (h1:s.heap.IsListIter i1 l1 k1) (h2:s.heap.IsListIter i2 l2 k2) (h3:s.heap.IsListIter i3 l3 k3) (oB:s.heap.IsList l1 xs) (mW:s.heap.IsList l2 ys) (wW:s.heap.IsList l3 zs) (hx:xs[k1]?=some x) (hy:ys[k2]?=some y) (hu:zs[k3]?=some u)
  (hQ:∀h',IsZip h' z TI TO (rawInt s.heap.objs.size)->iM h' TO x y u->h'.IsListIter i1 l1 (k1+1)->h'.IsListIter i2 l2 (k2+1)->h'.IsListIter i3 l3 (k3+1)->iM h' s.heap.objs.size x y u ->
   (∀c o,c≠z->c≠TO->c≠i1->c≠i2->c≠i3->s.heap.get? c=some o->h'.get? c=some o)->Q (some (.ref s.heap.objs.size)) { s with heap:=h' }) :
  ce (cr prog w) A (pyNext (.ref z)) Q E s:=by
 have hT:s.TypeIs (.ref z) "zip":=⟨_,hz,rfl⟩
 unfold pyNext
 exact bD (wpAny_attempt (wpAny_callSpecial?_slot (name:=Str.ofString "__next__") hT F.slot_zip_next
  (wpAny_call_entry F.slot_zip_next hT F.entry_zip_next
   (PB D hz tI tJ h1 h2 h3 oB mW wW hx hy hu λh' a1 a2 a3 a4 a5 a6 a7=>b9 (hQ h' a1 a2 a3 a4 a5 a6 a7)) (F.args_zip_next_1 _))))
theorem PH {a b c:bC}{Q:Option bC->bP->Prop}(hh:A.handled=none)(D:Z3 z TI TO i1 i2 i3 l1 l2 l3)
  (hz:IsZip s.heap z TI TO .none) (tI:iM s.heap TI (.ref i1) (.ref i2) (.ref i3)) (tJ:iM s.heap TO a b c)
  (h1:s.heap.IsListIter i1 l1 k1) (h2:s.heap.IsListIter i2 l2 k2) (h3:s.heap.IsListIter i3 l3 k3) (oB:s.heap.IsList l1 xs) (mW:s.heap.IsList l2 ys) (wW:s.heap.IsList l3 zs) (qT:xs[k1]?=none\/ys[k2]?=none\/zs[k3]?=none)
  (hQ:∀h',(∀c o,c≠z->c≠TO->c≠i1->c≠i2->c≠i3->s.heap.get? c=some o->h'.get? c=some o)->Q none { s with heap:=h' }):ce (cr prog w) A (pyNext (.ref z)) Q E s:=by
 have hT:s.TypeIs (.ref z) "zip":=⟨_,hz,rfl⟩
 unfold pyNext
 refine bD (wpAny_attempt (wpAny_callSpecial?_slot (name:=Str.ofString "__next__") hT F.slot_zip_next
  (wpAny_call_entry F.slot_zip_next hT F.entry_zip_next (Qf hh D hz tI tJ h1 h2 h3 oB mW wW qT λh' e hk he=>?_) (F.args_zip_next_1 _))))
 obtain⟨o,ho,hc⟩:=he
 refine bD (wpAny_isInstance (T:="StopIteration") (b:=true) ⟨o,ho,hc⟩ isSubtype_stop ?_)
 exact b9 (hQ _ hk)
end
noncomputable abbrev fN (l:bI):gH:={ cls:=.type "list_iterator",data:=.fields #[.ref l,.int 0 0] }
noncomputable abbrev EH (h:bU) (l1 l2 l3:bI):bU:=(((((h.push (fN l1)).push (fN l2)).push (fN l3)).push { cls:=.type "tuple",data:=.seq #[.ref h.objs.size,.ref (h.push (fN l1)).objs.size,.ref ((h.push (fN l1)).push (fN l2)).objs.size] }).push { cls:=.type "tuple",data:=.seq #[.none,.none,.none] })
noncomputable abbrev Bv (h:bU) (l1 l2 l3:bI):bU:=(EH h l1 l2 l3).push { cls:=.type "zip",data:=.fields #[.none,.bool false,.bool false,.ref (((h.push (fN l1)).push (fN l2)).push (fN l3)).objs.size,.ref ((((h.push (fN l1)).push (fN l2)).push (fN l3)).push { cls:=.type "tuple",data:=.seq #[.ref h.objs.size,.ref (h.push (fN l1)).objs.size,.ref ((h.push (fN l1)).push (fN l2)).objs.size] }).objs.size] }
theorem Pn (l1 l2 l3:bI)(xs ys zs:Array bC) :
  Meets (Builtin.«zip.__new__» ⟨[.type "zip",.ref l1,.ref l2,.ref l3],[]⟩) (λ_ R s=>s.heap.IsList l1 xs/\s.heap.IsList l2 ys/\s.heap.IsList l3 zs /\
   R (.ok (.ret (.ref (EH s.heap l1 l2 l3).objs.size))) { s with heap:=Bv s.heap l1 l2 l3 }) :=
 .of_wp λprog w A R s h=>by
  obtain⟨hp,g,d,tk,os⟩:=s;obtain⟨oB,mW,wW,h⟩:=h
  have Gj:=sub_zip
  have FE:i6 (bP.heap ⟨hp,g,d,tk,os⟩) l1 xs:=oB
  have FF:i6 (bP.heap ⟨hp.push (fN l1),g,d,tk,os⟩) l2 ys:=i6.push mW _
  have Nf:i6 (bP.heap ⟨(hp.push (fN l1)).push (fN l2),g,d,tk,os⟩) l3 zs:=i6.push (i6.push wW _) _
  wp_walk using gL FE,gL FF,gL Nf
  exact⟨_,rfl,h⟩
theorem PJ {prog:dA}{w:cY}{A:c7}{xs zs:Array bC}(oB:s.heap.IsList l1 xs)(mW:s.heap.IsList l2 ys)(wW:s.heap.IsList l3 zs)
    (h:∀h',IsZip h' (s.heap.objs.size+5) (s.heap.objs.size+3) (s.heap.objs.size+4) .none->iM h' (s.heap.objs.size+3) (.ref s.heap.objs.size) (.ref (s.heap.objs.size+1)) (.ref (s.heap.objs.size+2)) ->
      iM h' (s.heap.objs.size+4) .none .none .none->h'.IsListIter s.heap.objs.size l1 0->h'.IsListIter (s.heap.objs.size+1) l2 0->h'.IsListIter (s.heap.objs.size+2) l3 0 ->
      (∀c o,s.heap.get? c=some o->h'.get? c=some o)->Q (.ref (s.heap.objs.size+5)) { s with heap:=h' }) :
    ce (cr prog w) A (call (.type "zip") [.ref l1,.ref l2,.ref l3]) Q E s:=by
  refine callType_new F.called_zip (by decide) (Ox _ _ _) (OR _ _ _) (λobj=>P3 obj _ _ _) F.entry_zip_new
    (Pn l1 l2 l3 xs ys zs) ⟨oB,mW,wW,?_⟩
  have z1:(s.heap.push (fN l1)).objs.size=s.heap.objs.size+1:=dE ..
  have z2:((s.heap.push (fN l1)).push (fN l2)).objs.size=s.heap.objs.size+2:=by rw[dE,z1]
  have z3:(((s.heap.push (fN l1)).push (fN l2)).push (fN l3)).objs.size=s.heap.objs.size+3:=by rw[dE,z2]
  have g1:(Bv s.heap l1 l2 l3).get? s.heap.objs.size=some _:=bE _ (bE _ (bE _ (bE _ (bE _ (bX _ rfl)))))
  have g2:(Bv s.heap l1 l2 l3).get? (s.heap.push (fN l1)).objs.size=some _:=bE _ (bE _ (bE _ (bE _ (bX _ rfl))))
  have g3:(Bv s.heap l1 l2 l3).get? ((s.heap.push (fN l1)).push (fN l2)).objs.size=some _:=bE _ (bE _ (bE _ (bX _ rfl)))
  have g4:(Bv s.heap l1 l2 l3).get? (((s.heap.push (fN l1)).push (fN l2)).push (fN l3)).objs.size=some _:=bE _ (bE _ (bX _ rfl))
  have g5:(Bv s.heap l1 l2 l3).get? ((((s.heap.push (fN l1)).push (fN l2)).push (fN l3)).push { cls:=.type "tuple",data:=.seq #[.ref s.heap.objs.size,.ref (s.heap.push (fN l1)).objs.size,.ref ((s.heap.push (fN l1)).push (fN l2)).objs.size] }).objs.size=some _:=bE _ (bX _ rfl)
  have g6:(Bv s.heap l1 l2 l3).get? (EH s.heap l1 l2 l3).objs.size=some _:=bX _ rfl
  have z4:((((s.heap.push (fN l1)).push (fN l2)).push (fN l3)).push { cls:=.type "tuple",data:=.seq #[.ref s.heap.objs.size,.ref (s.heap.push (fN l1)).objs.size,.ref ((s.heap.push (fN l1)).push (fN l2)).objs.size] }).objs.size=s.heap.objs.size+4:=by rw[dE,z3]
  have z5:(EH s.heap l1 l2 l3).objs.size=s.heap.objs.size+5:=by rw[dE,z4]
  show _/\_
  rw[z5,z3,z4]at g6
  rw[z4]at g5
  rw[z3,z1,z2]at g4
  rw[z2]at g3
  rw[z1]at g2
  rw[z5]
  exact⟨⟨_,g6,rfl⟩,h _ g6 g4 g5 ⟨_,g1,rfl,rfl⟩ ⟨_,g2,rfl,rfl⟩ ⟨_,g3,rfl,rfl⟩ λc o x=>
    bE _ (bE _ (bE _ (bE _ (bE _ (bE _ x)))))⟩
end
variable {P:dA}{l:Expr}
section
open PySem PySem.Spec PyProof.Rows
noncomputable def Fi (K:bG)(a b c:bI):It :=
 ⟨λi H=>∃xs ys us x y u,(gp K H a xs/\gp K H b ys/\gp K H c us)/\xs[i]?=some x/\ys[i]?=some y/\us[i]?=some u,λi H x H'=>∃p u v t,H p=none/\x=.ref p/\H'=fM H p (.tup [u,v,t])/\(∀xs,gp K H a xs->xs[i]?=some u)/\(∀ys,gp K H b ys->ys[i]?=some v)/\∀us,gp K H c us->us[i]?=some t,
  λi H=>∃xs ys us,(gp K H a xs/\gp K H b ys/\gp K H c us)/\(xs.length<=i\/ys.length<=i\/us.length<=i)⟩
theorem PK {w:cY}{K:bG}{pt:mZ}(z TI TO i1 i2 i3 l1 l2 l3:bI)(ap:Z3 z TI TO i1 i2 i3 l1 l2 l3) :
    Turn P w K (.Tuple oA kt pt) (Fi K l1 l2 l3) [z,TI,TO,i1,i2,i3] z (λi h=>IsZip h z TI TO .none/\iM h TI (.ref i1) (.ref i2) (.ref i3)/\(∃a b c,iM h TO a b c)/\h.IsListIter i1 l1 i/\h.IsListIter i2 l2 i/\h.IsListIter i3 l3 i) where
  mem:=by simp
  obj:=λi h st b hb=>by
    obtain⟨q1,q2,⟨a,b',c',q3⟩,⟨o4,e4,_,d4⟩,⟨o5,e5,_,d5⟩,⟨o6,e6,_,d6⟩⟩:=st
    simp only[bL,cH,or_false]at hb
    rcases hb with rfl|rfl|rfl|rfl|rfl|rfl
    · exact⟨_,q1,λv y=>by cases y⟩
    · exact⟨_,q2,λv y=>by cases y⟩
    · exact⟨_,q3,λv y=>by cases y⟩
    · exact⟨_,e4,λv y=>by rw[d4]at y;cases y⟩
    · exact⟨_,e5,λv y=>by rw[d5]at y;cases y⟩
    · exact⟨_,e6,λv y=>by rw[d6]at y;cases y⟩
  keep:=λi h h' st k=>by
    obtain⟨q1,q2,⟨a,b',c',q3⟩,q4,q5,q6⟩:=st
    exact⟨k z (by simp) _ q1,k TI (by simp) _ q2,⟨a,b',c',k TO (by simp) _ q3⟩,q4.at λo x=>k i1 (by simp) o x,q5.at λo x=>k i2 (by simp) o x,q6.at λo x=>k i3 (by simp) o x⟩
  item:=by
    intro X hP hw hK hc i bH s σ H E I hf st hg
    subst hP hw hK
    obtain⟨xs,ys,us,x,y,t,⟨hq,qY,BN⟩,hx,hy,ht⟩:=hg
    obtain⟨df,rv,p,hz⟩:=I.list hq
    obtain⟨its',zN,p',A9⟩:=I.list qY
    obtain⟨tN,Ep,p2,Jc⟩:=I.list BN
    obtain⟨u,hu,ru⟩:=rv.get hx
    obtain⟨u',D8,GS⟩:=zN.get hy
    obtain⟨u2,CL,N5⟩:=Ep.get ht
    obtain⟨q1,q2,⟨a,b',c',q3⟩,q4,q5,q6⟩:=st
    refine Pm ap q1 q2 q3 q4 q5 q6 p.isList p'.isList p2.isList (x:=u) (y:=u') (u:=u2) (by simpa using hu) (by simpa using D8) (by simpa using CL) λh1 r1 r2 r3 r4 N1 r5 hk=>?_
    refine⟨_,rfl,wpAny_letOwnedTupleGo_zip (s:={ s with heap:=h1 }) r1 λh2 Cw rL=>?_⟩
    have DP:z<s.heap.objs.size:=bR q1
    have Hc:TI<s.heap.objs.size:=bR q2
    have GH:TO<s.heap.objs.size:=bR q3
    have CS:i1<s.heap.objs.size:=by obtain⟨_,q,_⟩:=q4;exact bR q
    have Gw:i2<s.heap.objs.size:=by obtain⟨_,q,_⟩:=q5;exact bR q
    have klt:i3<s.heap.objs.size:=by obtain⟨_,q,_⟩:=q6;exact bR q
    have Cm:h2.get? s.heap.objs.size=some { cls:=.type "tuple",data:=.seq #[u,u',u2] }:=(rL.2 _ (gP DP)).trans r5
    have Cy:H s.heap.objs.size=none:=I.hok.fresh (bY _)
    have I1:Inv X bH σ (fM H s.heap.objs.size (.tup [x,y,t])) { s with heap:=h2,toks:=s.toks }:=by
      refine I.turnLay (ch:=[z,TI,TO,i1,i2,i3]) hf (λb o hb q=>?_) (bY _) ⟨by show 3<=sizeLine;decide,[u,u',u2],.cons ru (.cons GS (.cons N5 .nil)),_,Cm,rfl,_,rfl⟩
      have b1:b≠z:=λe=>hb (by simp[e])
      have b3:b≠TO:=λe=>hb (by simp[e])
      have b4:b≠i1:=λe=>hb (by simp[e])
      have b5:b≠i2:=λe=>hb (by simp[e])
      have b6:b≠i3:=λe=>hb (by simp[e])
      exact(rL.2 b b1).trans (hk b o b1 b3 b4 b5 b6 q)
    refine⟨.ref s.heap.objs.size,_,I1,rfl,⟨_,x,y,t,Cy,rfl,rfl,λzs yZ=>by rw[I.list_inj yZ hq];exact hx,λzs yZ=>by rw[I.list_inj yZ qY];exact hy,λzs yZ=>by rw[I.list_inj yZ BN];exact ht⟩,⟨Cw,(rL.2 TI ap.TIz).trans (hk TI _ ap.TIz ap.TITO ap.TIi1 ap.TIi2 ap.TIi3 q2),⟨_,_,_,(rL.2 TO ap.TOz).trans r2⟩,r3.at λo q=>(rL.2 i1 ap.i1z).trans q,r4.at λo q=>(rL.2 i2 ap.i2z).trans q,N1.at λo q=>(rL.2 i3 ap.i3z).trans q⟩,λb hb=>?_⟩
    rw[zp ?_]
    · exact(hf b hb).1
    · simp only[bL,cH,or_false]at hb
      rcases hb with rfl|rfl|rfl|rfl|rfl|rfl
      · exact cy DP
      · exact cy Hc
      · exact cy GH
      · exact cy CS
      · exact cy Gw
      · exact cy klt
  done:=by
    intro X hP hw hK hc i bH s σ H E I hf st hg
    subst hP hw hK
    obtain⟨xs,ys,us,⟨hq,qY,BN⟩,hx⟩:=hg
    obtain⟨df,rv,p,hz⟩:=I.list hq
    obtain⟨its',zN,p',A9⟩:=I.list qY
    obtain⟨tN,Ep,p2,Jc⟩:=I.list BN
    obtain⟨q1,q2,⟨a,b',c',q3⟩,q4,q5,q6⟩:=st
    have hl:=rv.length
    have qW:=zN.length
    have mW:=Ep.length
    refine PH (I.ok.hd hc) ap q1 q2 q3 q4 q5 q6 p.isList p'.isList p2.isList (hx.imp (λh=>by simp;omega) (λh=>h.imp (λh=>by simp;omega) (λh=>by simp;omega))) λh' eb=>⟨rfl,I.turnedL (ch:=[z,TI,TO,i1,i2,i3]) (t':=s.toks) hf λb o hb q=>?_⟩
    exact eb b o (λe=>hb (by simp[e])) (λe=>hb (by simp[e])) (λe=>hb (by simp[e])) (λe=>hb (by simp[e])) (λe=>hb (by simp[e])) q
  self:=λ_ _ _ _ _ st h=>l6 st.1 h
theorem TV {n:bI}(h1:l1<n)(h2:l2<n)(h3:l3<n):Z3 (n+5) (n+3) (n+4) n (n+1) (n+2) l1 l2 l3:=by
 constructor<;>exactλe=>by simp only[bI]at *;omega
section
variable {pt:mZ}
noncomputable def CQ (K:bG)(ta:TA):TI:=λσ H R=>ta σ H λvs H1=>∃a b c,vs=[.ref a,.ref b,.ref c]/\(∃xs ys us,gp K H1 a xs/\gp K H1 b ys/\gp K H1 c us)/\R (Fi K a b c) H1
theorem RK {l' l2:Expr}{ta:TA}(hg:Gl X "zip")(hm:X.mg "zip"=none)(ha:PA X [l,l',l2] ta)(hs:bK [l,l',l2] X.env=[(false,cO l X.env),(false,cO l' X.env),(false,cO l2 X.env)]:=by rfl)(qJ:bK [l',l2] X.env=[(false,cO l' X.env),(false,cO l2 X.env)]:=by rfl) :
  PI X (.Tuple oA kt pt) (.Call (.Name "zip" p) [l,l',l2] [] pos) (CQ X.K ta):=by
 intro bH s σ H R I h
 refine Call_ (j0 I hg hm oN (eF (eL (ha pos bH s σ H _ I h) λus s1 ⟨vs,H1,I1,r1,q1⟩=>?_) (by rw[hs,qJ]) (by rw[qJ];rfl)))
 obtain⟨a,b,c,e,⟨xs,ys,VQ,hq,qY,BN⟩,q⟩:=q1
 subst e
 cases r1 with
 |cons r rr=>
  cases rr with
  |cons r' rr=>
   cases rr with
   |cons r2 rr=>
    cases rr
    cases r
    cases r'
    cases r2
    obtain⟨df,rv,pl,hz⟩:=I1.list hq
    obtain⟨its',zN,C9,A9⟩:=I1.list qY
    obtain⟨tN,Ep,Jo,Jc⟩:=I1.list BN
    have GA:a<s1.heap.objs.size:=by obtain⟨_,q,_⟩:=pl.isList;exact bR q
    have Bd:b<s1.heap.objs.size:=by obtain⟨_,q,_⟩:=C9.isList;exact bR q
    have NR:c<s1.heap.objs.size:=by obtain⟨_,q,_⟩:=Jo.isList;exact bR q
    refine PJ pl.isList C9.isList Jo.isList λh' r1 r2 r3 r4 r5 r6 hk=>?_
    refine l6 (s:={ s1 with heap:=h' }) r1 ?_
    refine⟨_,[_,_,_,_,_,_],_,_,H1,rfl,I1.kept (t':=s1.toks) hk,(PK _ _ _ _ _ _ a b c (TV GA Bd NR)).ok,⟨r1,r2,⟨_,_,_,r3⟩,r4,r5,r6⟩,λc hb=>?_,q⟩
    have:s1.heap.objs.size<=c:=by
     simp only[bL,cH,or_false]at hb
     rcases hb with rfl|rfl|rfl|rfl|rfl|rfl<;>omega
    exact I1.fpOk this (I1.hok.fresh this)
end
end
variable {ds:List bC}{kF:List V}
end L2
namespace PySem
variable {A:c7}{prog:dA}{w:cY}
end PySem
namespace L2
open PySem PySem.Spec PyProof.Rows
variable {α:Type}
noncomputable def every2 {α:Type}:List α->List α
 |[]=>[]
 |[x]=>[x]
 |x::_::r=>x::every2 r
variable {β:Type}
theorem u5 {α β:Type}(f:α->β):∀xs:List α,every2 (xs.map f)=(every2 xs).map f
 |[]=>rfl
 |[_]=>rfl
 |x::y::r=>congrArg (f x::·) (u5 f r)
theorem JH {α:Type}:∀(xs:List α) (k:Nat),(every2 xs)[k]?=xs[2*k]?
 |[],k=>by simp[every2]
 |[x],0=>rfl
 |[x],k+1=>by simp[every2]
 |x::y::r,0=>rfl
 |x::y::r,k+1=>by
  show(every2 r)[k]?=_
  rw[JH r k,show 2*(k+1)=2*k+1+1 by omega]
  rfl
theorem vh {α:Type}:∀(xs:List α),(every2 xs).length=(xs.length+1)/2
 |[]=>by simp[every2]
 |[x]=>by simp[every2]
 |x::y::r=>by
  show(every2 r).length+1=(r.length+1+1+1)/2
  rw[vh r];omega
theorem Qg (df:List bC)(i:Nat):slicePick df.toArray (some (i:Int)) none (some 2)=(every2 (df.drop i)).toArray:=by
 unfold slicePick iL sliceRange
 congr 1
 have h1:(2:Int) > 0:=by decide
 have h2:¬((i:Int)<0):=by omega
 simp only[uR,h1,h2,if_true,if_false,cm]
 have hm:max 0 (min (i:Int) (df.length:Int))=((min i df.length:Nat):Int):=by omega
 rw[hm]
 have hc:((if((min i df.length:Nat):Int)<(df.length:Int)then((df.length:Int)-((min i df.length:Nat):Int)+2-1)/2 else 0)).toNat=(every2 (df.drop i)).length:=by
  rw[vh,dQ]
  split<;>omega
 rw[hc,List.filterMap_map]
 have e:∀k∈cC (every2 (df.drop i)).length,(((λx=>df.toArray[x]?) ∘ λ(k:Nat)=>(((min i df.length:Nat):Int)+2*(k:Int)).toNat) k)=(every2 (df.drop i))[k]?:=λk hk=>by
  have hk:=di.mp hk
  rw[vh,dQ]at hk
  show df.toArray[(((min i df.length:Nat):Int)+2*(k:Int)).toNat]?=_
  rw[show(((min i df.length:Nat):Int)+2*(k:Int)).toNat=i+2*k by omega,List.getElem?_toArray,JH,List.getElem?_drop]
 have fm:∀(F:Nat->Option bC) (ys:List bC) (l:List Nat),(∀k∈l,F k=ys[k]?/\k<ys.length)->l.filterMap F=l.map λk=>(ys[k]?).getD .none:=by
  intro F ys l
  induction l with
  |nil=>exactλ_=>rfl
  |cons k l ih=>
   intro h
   obtain⟨h2,h3⟩:=h k bF
   have h4:ys[k]?=some ys[k]:=cz h3
   rw[jL,h2,h4,cn,ih λk hk=>h k (bJ _ hk),h4]
   rfl
 rw[fm _ (every2 (df.drop i)) _ λk hk=>⟨e k hk,di.mp hk⟩]
 apply wF
 ·simp
 ·intro j h2 h3
  simp only[List.getElem_map,List.getElem_range]
  rw[cz h3]
  rfl
variable {us:List bC}{xs:List V}
theorem c8.every2 (r:c8 xs us):c8 (every2 xs) (every2 us):=by
 have:∀(n:Nat) (xs:List V) (us:List bC),xs.length<=n->c8 xs us->c8 (L2.every2 xs) (L2.every2 us):=by
  intro n
  induction n with
  |zero=>
   intro xs us hl r
   cases r with
   |nil=>exact .nil
   |cons _ _=>simp at hl
  |succ n ih=>
   intro xs us hl r
   cases r with
   |nil=>exact .nil
   |cons h t=>
    cases t with
    |nil=>exact .cons h .nil
    |cons h2 t2=>exact .cons h (ih _ _ (by simp at hl;omega) t2)
 exact this _ _ _ (bY _) r
theorem c8.dropN (r:c8 xs us):∀n,c8 (xs.drop n) (us.drop n):=by
 induction r with
 |nil=>intro n;cases n<;>exact .nil
 |cons h t ih=>intro n;cases n with
  |zero=>exact .cons h t
  |succ n=>exact ih n
variable {E Q:bC->bP->Prop}{X:Cx}{e:Expr}{p2 pos:mZ}{s:bP}{te:TE}{x:Str}
section
variable {sl sp:Expr}{tl tp:TO}
noncomputable def Dz (K:bG)(te:TE)(tl tp:TO):TE:=λσ H Q=>te σ H λx H1=>tl σ H1 λol H2=>tp σ H2 λo H3=>∃(i:Nat) (a:bI) (xs:List V),ol=some (i:Int)/\o=some 2/\x=.ref a/\gp K H3 a xs/\∀p,H3 p=none->Q (.ref p) (fM H3 p (.lst (every2 (xs.drop i))))
theorem RL (he:PE X e te)(hl:PO X (some sl) tl)(hp:PO X (some sp) tp):PE X (.Subscript e (.Slice (some sl) none (some sp) p2) pos) (Dz X.K te tl tp):=by
  intro bH s σ H Q I h
  refine Subscript_ (eL (he bH s σ H _ I h) λv s1 fk=>?_)
  obtain⟨x,H1,I1,r1,q1⟩:=fk
  refine wpAny_Slice ?_
  refine eL (hl bH s1 σ H1 _ I1 q1) λvl s2 fk=>?_
  obtain⟨ol,H2,I2,pl,q2⟩:=fk
  rw[uA]
  refine b9 ?_
  refine eL (hp bH s2 σ H2 _ I2 q2) λvp s3 fk=>?_
  obtain⟨o,H3,I3,pp,q3⟩:=fk
  obtain⟨i,a,xs,rfl,rfl,rfl,hx,q⟩:=q3
  cases r1
  have I4:Inv X bH σ H3 { s3 with heap:=s3.heap.push { cls:=.type "slice",data:=.fields #[vl,.none,vp] } }:=I3.kept (t':=s3.toks) λb ob q=>bE _ q
  obtain⟨df,r,ht,hz⟩:=I4.list hx
  have hJ:=r.length
  refine tail_any (ops:=[.ref a,.ref s3.heap.objs.size]) (s:={ s3 with heap:=s3.heap.push { cls:=.type "slice",data:=.fields #[vl,.none,vp] } }) (T:="list") ht.isList.typeIs pO.lookup ?_ (by with_unfolding_all rfl)
  refine wpAny_getItem_list_slice ht.isList (yH.new ..) pl .none pp (by simp) ?_ (by rw[cm]<;>omega)
  rw[Qg]
  refine⟨.ref _,_,I4.laid (t':=s3.toks) (o:=.lst (every2 (xs.drop i))) (λb ob q=>bE _ q) (bY _) ?_,rfl,q _ (I4.hok.fresh (bY _))⟩
  exact⟨by rw[vh,dQ];omega,_,0,(r.dropN i).every2,bX _ rfl⟩
theorem Po {prog:dA}{w:cY}{A:c7}{y:Str}{t u:Tok}(hy:(y.length==0)=false)(hx:x.length<=sizeLine)(hn:(Txt.split x y).length<=sizeLine)
    (h:∀(l:List (Str×Tok)) k,l.map (·.1)=Txt.split x y->Q (.ref s.heap.objs.size) { s with heap:=s.heap.push { cls:=.type "list",data:=.seq (strValues l).toArray },toks:=k }):ce (cr prog w) A (call (.builtin "str.split") [.str x t,.str y u]) Q E s:=by
  cases h1:(decide (x.length<y.length) || decide (PySem.Builtin.Str.strKind x<PySem.Builtin.Str.strKind y))with
  |true=>
    exact kP F.slot_str_split (typeIs_str _ _ _) F.entry_str_split (F.args_str_split_2 _ _) (meets_str_split_cannot_occur x y t u h1) (h [(x,t)] s.toks (by unfold Txt.split;rw[if_pos h1];rfl))
  |false=>
    cases hf:(Builtin.Str.occurrences x y 0 x.length (x.length+1)).isEmpty with
    |true=>
      exact kP F.slot_str_split (typeIs_str _ _ _) F.entry_str_split (F.args_str_split_2 _ _) (meets_str_split_not_found x y t u h1 hy hf) (h [(x,t)] s.toks (by unfold Txt.split;rw[h1,if_neg bV,if_pos hf];rfl))
    |false=>
      have e:Txt.split x y=Builtin.Str.partsBetween x (Builtin.Str.occurrences x y 0 x.length (x.length+1)) y.length:=by unfold Txt.split;rw[h1,if_neg bV,hf,if_neg bV]
      rw[e]at hn
      refine kP F.slot_str_split (typeIs_str _ _ _) F.entry_str_split (F.args_str_split_2 _ _) (meets_str_split_sep x y t u h1 hy hf hx hn) ?_
      have:=h (numbered s.toks (Builtin.Str.partsBetween x (Builtin.Str.occurrences x y 0 x.length (x.length+1)) y.length)) (s.toks+(Builtin.Str.partsBetween x (Builtin.Str.occurrences x y 0 x.length (x.length+1)) y.length).length) ((numbered_texts _ _).trans e.symm)
      rw[←strsFrom_eq]at this
      exact this
theorem kN:∀l:List (Str×Tok),c8 ((l.map (·.1)).map V.str) (strValues l)
 |[]=>.nil
 |(x,t)::l=>.cons ⟨t,rfl⟩ (kN l)
noncomputable def Bk:V->List V->Hp->VK->Prop:=λx vs H Q=>∃y z,x=.str y/\vs=[.str z]/\(z.length==0)=false/\y.length<=sizeLine/\(Txt.split y z).length<=sizeLine/\∀p,H p=none->Q (.ref p) (fM H p (.lst ((Txt.split y z).map V.str)))
theorem Qh:DT X "str.split" Bk:=by
 intro bH s σ H x vs v us Q I rx rv h
 obtain⟨y,z,rfl,rfl,hz,hy,hn,q⟩:=h
 obtain⟨tk,rfl⟩:=rx
 obtain⟨u,rfl,ru⟩:=rv.one
 obtain⟨tu,rfl⟩:=ru
 refine Po hz hy hn λl k e=>?_
 rw[←e]at hn q
 refine⟨.ref _,_,I.laid (t':=k) (o:=.lst ((l.map (·.1)).map V.str)) (λb ob q=>bE _ q) (bY _) ?_,rfl,q _ (I.hok.fresh (bY _))⟩
 exact⟨by rw[bN];exact hn,_,0,kN l,bX _ rfl⟩
theorem yc:gB X (.type "int") (λxs H Q=>∃y i,xs=[.str y]/\PySem.intText? y=some i/\y.length<=640/\Q (.int i) H):=by
 intro bH s σ H xs us Q I r h
 obtain⟨y,i,rfl,hi,hl,q⟩:=h
 obtain⟨u,rfl,rx⟩:=oj r
 obtain⟨tk,rfl⟩:=rx
 exact PySem.W.KIN.call_text hi hl ⟨.int i,H,I.tok _,⟨_,rfl⟩,q⟩
end
inductive EL (w:cY):List DictEntry->List (Str×bC)->Prop
 |nil:EL w [] []
 |cons {k:Str} {t:Tok} {v:bC} {es:List DictEntry} {L:List (Str×bC)}:EL w es L->EL w (⟨cx.keyHash w.params k,.str k t,v⟩::es) ((k,v)::L)
structure KD (K:bG)(w:cY)(mg:Str->Option bC)(x:Str)(da:bI)(L:List (Str×bC)):Prop where
 mgx:mg x=some (.ref da)
 sy:(da==fU)=false
 ob:∃(es:Array DictEntry) (ep:Nat),K.lookup da=some ⟨.type "dict",none,.dict es ep,#[]⟩/\EL w es.toList L
variable {L:List (Str×bC)}{P:dA}{h:bU}
section
variable {w:cY}
theorem EL.keys {es:List DictEntry}(h:EL w es L):∀e∈es,∃k,(strKind P w).is k e.key=true/\e.hash=(strKind P w).hash k:=by
 induction h with
 |nil=>intro e h;cases h
 |@cons k t v es L h ih=>
  intro e he
  rcases bL.mp he with rfl|he
  ·exact⟨k,strKind_is P w k t,rfl⟩
  ·exact ih e he
theorem EL.find {es:List DictEntry}(h:EL w es L)(k:Str):(es.find? λe=>(strKind P w).is k e.key).map (·.val)=L.lookup k:=by
 induction h with
 |nil=>rfl
 |@cons k' t v es L h ih=>
  rw[dN,cq]
  have:(strKind P w).is k (.str k' t)=(k==k'):=by
   show bC.isStrOf k (.str k' t)=_
   simp[bC.isStrOf]
   first|rfl|exact Bool.beq_comm|(rw[xN];simp[eq_comm])
  dsimp only
  rw[this]
  cases e:(k==k')with
  |true=>rfl
  |false=>exact ih
theorem KD.map {K:bG}{mg:Str->Option bC}{da:bI}(D:KD K w mg x da L)(X:K.In h):h.MapOf (strKind P w) da (λk=>L.lookup k):=by
 obtain⟨es,ep,l,q⟩:=D.ob
 refine⟨_,es,ep,X _ _ l,⟨rfl,rfl,rfl⟩,rfl,λe he=>q.keys e (Array.mem_def.mp he),λk=>?_⟩
 show findBy (PySem.strKind P w).is es k=L.lookup k
 rw[←q.find (P:=P) k]
 unfold findBy
 rw[←t3]
end
variable {CX:xP}{es:List Expr}{p:mZ}{ty:TE}
section
variable {da:bI}{i:Expr}
noncomputable def Of (L:List (Str×bC))(ty:TE):TE:=λσ H Q=>ty σ H λy H1=>∃k u v,y=.str k/\L.lookup k=some u/\RelV v u/\Q v H1
theorem UM (D:KD X.K X.w X.mg x da L)(hg:Gl X x)(hi:PE X i ty)(hs:wI i)(hd:(x==("__debug__":Str))=false):PE X (.Subscript (.Name x p) i pos) (Of L ty):=by
 intro bH s σ H Q I h
 refine K6 PySem.F.slot_dict_getitem.lookup hs (wo I hg D.mgx (eL (hi bH s σ H _ I h) λiv s2 ⟨y,H2,I2,ry,k,u,v,ey,l,rv,q2⟩=>?_) hd)
 subst ey
 obtain⟨t,rfl⟩:=ry
 have M:=D.map (P:=X.prog) I2.kIn
 exact⟨M.typeIs,wpAny_getItem_of (strKind_is X.prog X.w k t) M l ⟨v,H2,I2.tok _,rv,q2⟩⟩
noncomputable def AI (neg:Bool)(L:List (Str×bC))(ty:TE):TE:=λσ H Q=>ty σ H λy H1=>∃k,y=.str k/\Q (.bl (if neg then !(L.lookup k).isSome else(L.lookup k).isSome)) H1
theorem RM (D:KD X.K X.w X.mg x da L)(hg:Gl X x)(hi:PE X i ty)(hd:(x==("__debug__":Str))=false):PC X .In i (.Name x p) (AI false L ty):=by
 intro bH s σ H Q I h
 refine eL (hi bH s σ H _ I h) λiv s1 ⟨y,H1,I1,ry,k,ey,q1⟩=>wo I1 hg D.mgx ?_ hd
 subst ey
 obtain⟨t,rfl⟩:=ry
 exact wpAny_in_of (strKind_is X.prog X.w k t) D.sy (D.map (P:=X.prog) I1.kIn) ⟨.bl _,H1,I1.tok _,rfl,q1⟩
theorem Pp (D:KD X.K X.w X.mg x da L)(hg:Gl X x)(hi:PE X i ty)(hd:(x==("__debug__":Str))=false):PC X .NotIn i (.Name x p) (AI true L ty):=by
 intro bH s σ H Q I h
 refine eL (hi bH s σ H _ I h) λiv s1 ⟨y,H1,I1,ry,k,ey,q1⟩=>wo I1 hg D.mgx ?_ hd
 subst ey
 obtain⟨t,rfl⟩:=ry
 exact wpAny_notIn_of (strKind_is X.prog X.w k t) D.sy (D.map (P:=X.prog) I1.kIn) ⟨.bl _,H1,I1.tok _,rfl,q1⟩
variable {E:XK}{t:TA}
noncomputable def GZ (L:List (Str×bC))(F:Str->bI->Sp->Prop)(E:XK)(ty:TE)(t:TA):TE:=λσ H Q=>ty σ H λy H1=>∃k f sp,y=.str k/\L.lookup k=some (.ref f)/\F k f sp/\t σ H1 λvs H2=>sp vs H2 Q E
theorem TY {F:Str->bI->Sp->Prop}(D:KD X.K X.w X.mg x da L)(hF:∀k f sp,F k f sp->∃kk fd ps,dm X.prog X.w X.K X.mg X.base CX kk f fd ps sp/\eG kk X.A/\ei X.K (.ref f)=true/\fO X.K fd ps [])(hx:kx CX X E)(hg:Gl X x)(hi:PE X i ty)(hs:wI i)(ha:PA X (e::es) t)
  (hd:(x==("__debug__":Str))=false) (he:bK (e::es) X.env=(false,cO e X.env)::bK es X.env) (jM:(dq pos (bK es X.env)).any (·.1)=false) :
  PE X (.Call (.Subscript (.Name x p) i p2) (e::es) [] pos) (GZ L F E ty t):=by
 intro bH s σ H Q I h
 show ce _ _ (cO (.Subscript (.Name x p) i p2) X.env >>= λfv=>jY pos fv [] (dq pos (bK (e::es) X.env)) (gk pos (ek [] X.env))) _ _ s
 refine bD (K6 PySem.F.slot_dict_getitem.lookup hs (wo I hg D.mgx (eL (hi bH s σ H _ I h) λiv s2 ⟨y,H2,I2,ry,k,f,sp,ey,l,hf,q2⟩=>?_) hd))
 subst ey
 obtain⟨tk,rfl⟩:=ry
 have M:=D.map (P:=X.prog) I2.kIn
 refine⟨M.typeIs,wpAny_getItem_of (strKind_is X.prog X.w k tk) M l ?_⟩
 obtain⟨kk,fd,ps,Fn,hr,hk,hb⟩:=hF k f sp hf
 have I3:=I2.tok (s2.toks+1)
 refine gZ (h₀:=X.base) I.ok.mod.kin hk (eL (ha pos bH _ σ H2 _ I3 q2) λus s4 ⟨vs,H4,I4,r,q⟩=>⟨I4.kIn,?_⟩) he jM
 exact DE (kF:=[]) (ds:=[]) Fn hr hb .nil hx I4 r (by rw[cV];exact q)
end
variable {i:Nat}{it l1 l2:bI}{ys:Array bC}
section
variable {prog:dA}{w:cY}{A:c7}{z TI TO i1 i2:bI}{xs:Array bC}{k1 k2:Nat}
theorem RN {t:bI}{x:bC}(hit:s.heap.IsTupleIter it t i)(ht:s.heap.IsTuple t ys)(hx:ys[i]?=some x)
  (hQ:∀h',h'.IsTupleIter it t (i+1)->eS it s.heap h'->Q x { s with heap:=h' }):ce (cr prog w) A (Builtin.SmallTypes.nextOf (.ref it)) Q E s:=by
 obtain⟨o,ho,hc,hd⟩:=id hit
 obtain⟨ol,Gf,_,nl,yQ⟩:=ht
 unfold Builtin.SmallTypes.nextOf
 refine bD (wpAny_callSpecial?_slot (name:=Str.ofString "__next__") hit.typeIs F.slot_tuple_iterator_next (wpAny_call_entry F.slot_tuple_iterator_next hit.typeIs F.entry_tuple_iterator_next ?_ (F.args_tuple_iterator_next_1 _)))
 show ce _ _ (field (.ref it) 0 >>= _) _ _ s
 refine bD (wpAny_field ho hd (x:=.ref t) rfl ?_)
 show ce _ _ (if(bC.ref t==bC.none)=true then _ else _) _ _ s
 rw[if_neg (show¬((bC.ref t==bC.none)=true)from bV)]
 show ce _ _ (field (.ref it) 1 >>= _) _ _ s
 refine bD (wpAny_field ho hd (x:=.int i 0) rfl ?_)
 show ce _ _ (seqItems? (.ref t) >>= _) _ _ s
 refine bD (wpAny_seqItems Gf yQ ?_)
 simp only[fJ,hx]
 refine bD (wpAny_setField ho hd (by simp) (b9 ⟨x,rfl,b9 (hQ _ ?_ (eS.update ..))⟩))
 exact⟨_,lP _ ho (gH.isFreed_of_fields (gH.data_mapFields hd _)),(gH.cls_mapFields ..).trans hc,by rw[gH.data_mapFields hd];simp[rawInt]⟩
theorem TZ {t:bI}(hh:A.handled=none)(hit:s.heap.IsTupleIter it t i)(ht:s.heap.IsTuple t ys)(hx:ys[i]?=none)
  (hE:∀h' e,bU.ExtBut it s.heap h'->(∃o,h'.get? e=some o/\o.cls=.type "StopIteration")->E (.ref e) { s with heap:=h' }):ce (cr prog w) A (Builtin.SmallTypes.nextOf (.ref it)) Q E s:=by
 obtain⟨o,ho,hc,hd⟩:=id hit
 obtain⟨ol,Gf,_,nl,yQ⟩:=ht
 unfold Builtin.SmallTypes.nextOf
 refine bD (wpAny_callSpecial?_slot (name:=Str.ofString "__next__") hit.typeIs F.slot_tuple_iterator_next (wpAny_call_entry F.slot_tuple_iterator_next hit.typeIs F.entry_tuple_iterator_next ?_ (F.args_tuple_iterator_next_1 _)))
 show ce _ _ (field (.ref it) 0 >>= _) _ _ s
 refine bD (wpAny_field ho hd (x:=.ref t) rfl ?_)
 show ce _ _ (if(bC.ref t==bC.none)=true then _ else _) _ _ s
 rw[if_neg (show¬((bC.ref t==bC.none)=true)from bV)]
 show ce _ _ (field (.ref it) 1 >>= _) _ _ s
 refine bD (wpAny_field ho hd (x:=.int i 0) rfl ?_)
 show ce _ _ (seqItems? (.ref t) >>= _) _ _ s
 refine bD (wpAny_seqItems Gf yQ ?_)
 simp only[fJ,hx]
 refine bD (wpAny_rule (bD (wpAny_setField ho hd (by simp) ?_)))
 show ce _ _ (newExc (.type "StopIteration") [] >>= _) _ _ _
 refine bD ?_
 simp only[newExc,newTuple]
 refine bD (lA ?_ (by size_fits))
 refine bD (m:=firstArgMember _ _) (wpAny_of_eq (a:=bC.none) (by first|rfl|(simp only[firstArgMember];rfl)) ?_)
 refine lA ?_ (by size_fits)
 simp only[raiseNew]
 refine bD (wpAny_handled ?_)
 first|rw[show A.in1.handled=none from hh]|rw[hh]
 exact bD (b9 (wpAny_throw (hE _ _ (((eS.update ..).extBut.push _).push _) ⟨_,bX _ rfl,rfl⟩)))
theorem Ri {x y a b:bC}(D:ZipApart z TI TO i1 i2 l1 l2)
    (hz:IsZip s.heap z TI TO .none) (tI:IsPair s.heap TI (.ref i1) (.ref i2)) (tJ:IsPair s.heap TO a b)
    (h1:s.heap.IsListIter i1 l1 k1) (h2:s.heap.IsTupleIter i2 l2 k2) (oB:s.heap.IsList l1 xs) (mW:s.heap.IsTuple l2 ys) (hx:xs[k1]?=some x) (hy:ys[k2]?=some y)
    (hQ:∀h',IsZip h' z TI TO (rawInt s.heap.objs.size)->IsPair h' TO x y->h'.IsListIter i1 l1 (k1+1)->h'.IsTupleIter i2 l2 (k2+1)->IsPair h' s.heap.objs.size x y ->
      (∀c o,c≠z->c≠TO->c≠i1->c≠i2->s.heap.get? c=some o->h'.get? c=some o)->Q (.ref s.heap.objs.size) { s with heap:=h' }) :
    ce (cr prog w) A (Builtin.«zip.__next__» ⟨[.ref z],[]⟩) (λfin s'=>∃v,fin=.done (.ret v)/\Q v s') E s:=by
  show ce _ _ (field (.ref z) 2 >>= _) _ _ _
  refine bD (wpAny_field hz rfl (x:=.bool false) rfl ?_)
  show ce _ _ (field (.ref z) 3 >>= _) _ _ _
  refine bD (wpAny_field hz rfl (x:=.ref TI) rfl ?_)
  refine bD (wpAny_seqItems tI rfl ?_)
  refine bD ?_
  unfold Builtin.SmallTypes.ownedTupleIsFree
  refine bD (wpAny_field hz rfl (x:=.none) rfl (b9 ?_))
  simp only[if_true]
  refine bD (wpAny_rule ?_)
  refine bD (wpAny_field hz rfl (x:=.ref TO) rfl ?_)
  refine bD (wpAny_setField_rec hz (by simp) λg1 z1 q1=>?_)
  replace z1:IsZip g1 z TI TO .ellipsis:=z1
  refine bD ?_
  simp only[kU,lJ,gw,iD]
  refine bD (bD (wpAny_onRaise ?_))
  refine bD (wpAny_nextOf_list_item (h1.extBut q1.extBut D.i1z) (oB.extBut q1.extBut D.l1z) hx λg2 e2 q2=>b9 ?_)
  have o2:IsPair g2 TO a b:=q2.extBut _ _ D.TOi1 (q1.extBut _ _ D.TOz tJ)
  refine bD (wpAny_seqItems o2 rfl ?_)
  refine bD (wpAny_updateSeq_pair o2 λg3 o3 q3=>?_)
  replace o3:IsPair g3 TO x b:=o3
  refine bD (wpAny_letGo (b9 ?_))
  refine bD (bD (wpAny_onRaise ?_))
  refine bD (RN (((h2.extBut q1.extBut D.i2z).extBut q2.extBut D.i12.symm).extBut q3.extBut D.TOi2.symm) (((mW.extBut q1.extBut D.l2z).extBut q2.extBut D.l2i1).extBut q3.extBut D.l2TO) hy λg4 e4 q4=>b9 ?_)
  have o4:IsPair g4 TO x b:=q4.extBut _ _ D.TOi2 o3
  refine bD (wpAny_seqItems o4 rfl ?_)
  refine bD (wpAny_updateSeq_pair o4 λg5 o5 q5=>?_)
  replace o5:IsPair g5 TO x y:=o5
  refine bD (wpAny_letGo (b9 (b9 ?_)))
  refine bD (wpAny_seqItems o5 rfl ?_)
  refine bD (wpAny_newTuple ?_)
  have hsz:g5.objs.size=s.heap.objs.size:=by rw[q5.1,q4.1,q3.1,q2.1,q1.1]
  have z5:IsZip g5 z TI TO .ellipsis:=q5.extBut _ _ D.TOz.symm (q4.extBut _ _ D.i2z.symm (q3.extBut _ _ D.TOz.symm (q2.extBut _ _ D.i1z.symm z1)))
  have k5:∀c o,c≠z->c≠TO->c≠i1->c≠i2->s.heap.get? c=some o->g5.get? c=some o:=λc o c1 c2 c3 c4 e=>
    q5.extBut _ _ c2 (q4.extBut _ _ c4 (q3.extBut _ _ c2 (q2.extBut _ _ c3 (q1.extBut _ _ c1 e))))
  have f1:g5.IsListIter i1 l1 (k1+1):=((e2.extBut q3.extBut D.TOi1.symm).extBut q4.extBut D.i12).extBut q5.extBut D.TOi1.symm
  have f2:g5.IsTupleIter i2 l2 (k2+1):=e4.extBut q5.extBut D.TOi2.symm
  have wX:z<g5.objs.size:=bR z5
  show ce _ _ (Builtin.SmallTypes.ownedTupleHandOut (.ref z) (.ref g5.objs.size) >>= _) _ _ _
  refine bD ?_
  unfold Builtin.SmallTypes.ownedTupleHandOut
  have z6:IsZip (g5.push { cls:=.type "tuple",data:=.seq #[x,y] }) z TI TO .ellipsis:=bE _ z5
  refine bD (wpAny_setField_rec z6 (by simp) λg7 z7 q7=>?_)
  replace z7:IsZip g7 z TI TO (rawInt g5.objs.size):=z7
  refine wpAny_setField_rec z7 (by simp) λg8 z8 q8=>?_
  replace z8:IsZip g8 z TI TO (rawInt g5.objs.size):=z8
  have up:∀c o,c≠z->g5.get? c=some o->g8.get? c=some o:=λc o c1 e=>q8.extBut _ _ c1 (q7.extBut _ _ c1 (bE _ e))
  have t8:IsPair g8 g5.objs.size x y:=q8.extBut _ _ (gP wX) (q7.extBut _ _ (gP wX) (bX _ rfl))
  rw[hsz]at z8 t8
  refine b9 ⟨_,rfl,?_⟩
  show Q (.ref g5.objs.size) _
  rw[hsz]
  obtain⟨oo,oe,oc,od⟩:=f2
  exact hQ g8 z8 (up _ _ D.TOz o5) (f1.at λo e=>up _ o D.i1z e) ⟨oo,up _ _ D.i2z oe,oc,od⟩ t8 λc o c1 c2 c3 c4 e=>up c o c1 (k5 c o c1 c2 c3 c4 e)
theorem Tg {a b:bC}{Q:Fin->bP->Prop}(hh:A.handled=none)(D:ZipApart z TI TO i1 i2 l1 l2)
  (hz:IsZip s.heap z TI TO .none) (tI:IsPair s.heap TI (.ref i1) (.ref i2)) (tJ:IsPair s.heap TO a b)
  (h1:s.heap.IsListIter i1 l1 k1) (h2:s.heap.IsTupleIter i2 l2 k2) (oB:s.heap.IsList l1 xs) (mW:s.heap.IsTuple l2 ys) (qT:xs[k1]?=none\/ys[k2]?=none)
  (hE:∀h' e,(∀c o,c≠z->c≠TO->c≠i1->c≠i2->s.heap.get? c=some o->h'.get? c=some o)->(∃o,h'.get? e=some o/\o.cls=.type "StopIteration")->E (.ref e) { s with heap:=h' }) :
  ce (cr prog w) A (Builtin.«zip.__next__» ⟨[.ref z],[]⟩) Q E s:=by
 show ce _ _ (field (.ref z) 2 >>= _) _ _ _
 refine bD (wpAny_field hz rfl (x:=.bool false) rfl ?_)
 show ce _ _ (field (.ref z) 3 >>= _) _ _ _
 refine bD (wpAny_field hz rfl (x:=.ref TI) rfl ?_)
 refine bD (wpAny_seqItems tI rfl ?_)
 refine bD ?_
 unfold Builtin.SmallTypes.ownedTupleIsFree
 refine bD (wpAny_field hz rfl (x:=.none) rfl (b9 ?_))
 simp only[if_true]
 refine bD (wpAny_rule ?_)
 refine bD (wpAny_field hz rfl (x:=.ref TO) rfl ?_)
 refine bD (wpAny_setField_rec hz (by simp) λg1 z1 q1=>?_)
 replace z1:IsZip g1 z TI TO .ellipsis:=z1
 refine bD ?_
 simp only[kU,lJ,gw,iD]
 refine bD (bD (wpAny_onRaise ?_))
 cases hx:xs[k1]? with
 |none=>
  refine bD (wpAny_nextOf_list_end hh (h1.extBut q1.extBut D.i1z) (oB.extBut q1.extBut D.l1z) hx λg2 e q2 he=>?_)
  obtain⟨oe,qX,uG⟩:=he
  have z2:IsZip g2 z TI TO .ellipsis:=q2 _ _ D.i1z.symm z1
  have yR:e≠z:=λx=>by subst x;rw[z2]at qX;cases qX;simp at uG
  exact wpAny_setField_rec z2 (by simp) λg3 _ q3=>hE g3 e (λc o c1 _ c3 _ x=>q3.extBut _ _ c1 (q2 _ _ c3 (q1.extBut _ _ c1 x))) ⟨oe,q3.extBut _ _ yR qX,uG⟩
 |some x=>
  have hy:ys[k2]?=none:=qT.resolve_left (by rw[hx];nofun)
  refine bD (wpAny_nextOf_list_item (h1.extBut q1.extBut D.i1z) (oB.extBut q1.extBut D.l1z) hx λg2 e2 q2=>b9 ?_)
  have o2:IsPair g2 TO a b:=q2.extBut _ _ D.TOi1 (q1.extBut _ _ D.TOz tJ)
  refine bD (wpAny_seqItems o2 rfl ?_)
  refine bD (wpAny_updateSeq_pair o2 λg3 o3 q3=>?_)
  refine bD (wpAny_letGo (b9 ?_))
  refine bD (bD (wpAny_onRaise ?_))
  refine bD (TZ hh (((h2.extBut q1.extBut D.i2z).extBut q2.extBut D.i12.symm).extBut q3.extBut D.TOi2.symm) (((mW.extBut q1.extBut D.l2z).extBut q2.extBut D.l2i1).extBut q3.extBut D.l2TO) hy λg4 e q4 he=>?_)
  obtain⟨oe,qX,uG⟩:=he
  have z4:IsZip g4 z TI TO .ellipsis:=q4 _ _ D.i2z.symm (q3.extBut _ _ D.TOz.symm (q2.extBut _ _ D.i1z.symm z1))
  have yR:e≠z:=λx=>by subst x;rw[z4]at qX;cases qX;simp at uG
  exact wpAny_setField_rec z4 (by simp) λg5 _ q5=>hE g5 e (λc o c1 c2 c3 c4 x=>q5.extBut _ _ c1 (q4 _ _ c4 (q3.extBut _ _ c2 (q2.extBut _ _ c3 (q1.extBut _ _ c1 x))))) ⟨oe,q5.extBut _ _ yR qX,uG⟩
theorem Qi {x y a b:bC}{Q:Option bC->bP->Prop}(D:ZipApart z TI TO i1 i2 l1 l2)
  (hz:IsZip s.heap z TI TO .none) (tI:IsPair s.heap TI (.ref i1) (.ref i2)) (tJ:IsPair s.heap TO a b)
  (h1:s.heap.IsListIter i1 l1 k1) (h2:s.heap.IsTupleIter i2 l2 k2) (oB:s.heap.IsList l1 xs) (mW:s.heap.IsTuple l2 ys) (hx:xs[k1]?=some x) (hy:ys[k2]?=some y)
  (hQ:∀h',IsZip h' z TI TO (rawInt s.heap.objs.size)->IsPair h' TO x y->h'.IsListIter i1 l1 (k1+1)->h'.IsTupleIter i2 l2 (k2+1)->IsPair h' s.heap.objs.size x y ->
   (∀c o,c≠z->c≠TO->c≠i1->c≠i2->s.heap.get? c=some o->h'.get? c=some o)->Q (some (.ref s.heap.objs.size)) { s with heap:=h' }):ce (cr prog w) A (pyNext (.ref z)) Q E s:=by
 have hT:s.TypeIs (.ref z) "zip":=⟨_,hz,rfl⟩
 unfold pyNext
 exact bD (wpAny_attempt (wpAny_callSpecial?_slot (name:=Str.ofString "__next__") hT F.slot_zip_next (wpAny_call_entry F.slot_zip_next hT F.entry_zip_next
   (Ri D hz tI tJ h1 h2 oB mW hx hy λh' a1 a2 a3 a4 a5 a6=>b9 (hQ h' a1 a2 a3 a4 a5 a6)) (F.args_zip_next_1 _))))
theorem Rj {a b:bC}{Q:Option bC->bP->Prop}(hh:A.handled=none)(D:ZipApart z TI TO i1 i2 l1 l2)
  (hz:IsZip s.heap z TI TO .none) (tI:IsPair s.heap TI (.ref i1) (.ref i2)) (tJ:IsPair s.heap TO a b)
  (h1:s.heap.IsListIter i1 l1 k1) (h2:s.heap.IsTupleIter i2 l2 k2) (oB:s.heap.IsList l1 xs) (mW:s.heap.IsTuple l2 ys) (qT:xs[k1]?=none\/ys[k2]?=none)
  (hQ:∀h',(∀c o,c≠z->c≠TO->c≠i1->c≠i2->s.heap.get? c=some o->h'.get? c=some o)->Q none { s with heap:=h' }):ce (cr prog w) A (pyNext (.ref z)) Q E s:=by
 have hT:s.TypeIs (.ref z) "zip":=⟨_,hz,rfl⟩
 unfold pyNext
 refine bD (wpAny_attempt (wpAny_callSpecial?_slot (name:=Str.ofString "__next__") hT F.slot_zip_next (wpAny_call_entry F.slot_zip_next hT F.entry_zip_next (Tg hh D hz tI tJ h1 h2 oB mW qT λh' e hk he=>?_) (F.args_zip_next_1 _))))
 obtain⟨o,ho,hc⟩:=he
 exact bD (wpAny_isInstance (T:="StopIteration") (b:=true) ⟨o,ho,hc⟩ isSubtype_stop (b9 (hQ _ hk)))
end
noncomputable abbrev DR (l:bI):gH:={ cls:=.type "list_iterator",data:=.fields #[.ref l,.int 0 0] }
noncomputable abbrev UW (l:bI):gH:={ cls:=.type "tuple_iterator",data:=.fields #[.ref l,.int 0 0] }
noncomputable abbrev Ff (h:bU) (l1 l2:bI):bU:=(h.push (DR l1)).push (UW l2)
noncomputable abbrev Fg (h:bU) (l1 l2:bI):bU:=(Ff h l1 l2).push { cls:=.type "tuple",data:=.seq #[.ref h.objs.size,.ref (h.push (DR l1)).objs.size] }
noncomputable abbrev Fh (h:bU) (l1 l2:bI):bU:=(Fg h l1 l2).push { cls:=.type "tuple",data:=.seq #[.none,.none] }
noncomputable abbrev B0 (h:bU) (l1 l2:bI):bU:=(Fh h l1 l2).push { cls:=.type "zip",data:=.fields #[.none,.bool false,.bool false,.ref (Ff h l1 l2).objs.size,.ref (Fg h l1 l2).objs.size] }
theorem Qj (l1 l2:bI)(xs ys:Array bC) :
  Meets (Builtin.«zip.__new__» ⟨[.type "zip",.ref l1,.ref l2],[]⟩) (λ_ R s=>s.heap.IsList l1 xs/\s.heap.IsTuple l2 ys/\R (.ok (.ret (.ref (Fh s.heap l1 l2).objs.size))) { s with heap:=B0 s.heap l1 l2 }) :=
 .of_wp λprog w A R s h=>by
  obtain⟨hp,g,d,tk,os⟩:=s;obtain⟨oB,mW,h⟩:=h
  have Gj:=sub_zip
  have FE:i6 (bP.heap ⟨hp,g,d,tk,os⟩) l1 xs:=oB
  have FF:bU.IsTuple (bP.heap ⟨hp.push (DR l1),g,d,tk,os⟩) l2 ys:=bU.IsTuple.push mW _
  wp_walk using gL FE,wpAny_pyIter_tuple FF
  exact⟨_,rfl,h⟩
theorem Rk {prog:dA}{w:cY}{A:c7}{xs:Array bC}(oB:s.heap.IsList l1 xs)(mW:s.heap.IsTuple l2 ys)
  (h:∀h',IsZip h' (s.heap.objs.size+4) (s.heap.objs.size+2) (s.heap.objs.size+3) .none->IsPair h' (s.heap.objs.size+2) (.ref s.heap.objs.size) (.ref (s.heap.objs.size+1)) ->
   IsPair h' (s.heap.objs.size+3) .none .none->h'.IsListIter s.heap.objs.size l1 0->h'.IsTupleIter (s.heap.objs.size+1) l2 0->(∀c o,s.heap.get? c=some o->h'.get? c=some o)->Q (.ref (s.heap.objs.size+4)) { s with heap:=h' }) :
  ce (cr prog w) A (call (.type "zip") [.ref l1,.ref l2]) Q E s:=by
 refine callType_new F.called_zip (by decide) (F.typeCall_zip_2 _ _) (F.newCall_zip_2 _ _) (λobj=>F.args_object_init_3 obj _ _) F.entry_zip_new (Qj l1 l2 xs ys) ⟨oB,mW,?_⟩
 have z1:(s.heap.push (DR l1)).objs.size=s.heap.objs.size+1:=dE ..
 have z2:(Ff s.heap l1 l2).objs.size=s.heap.objs.size+2:=by rw[dE,z1]
 have z3:(Fg s.heap l1 l2).objs.size=s.heap.objs.size+3:=by rw[dE,z2]
 have z4:(Fh s.heap l1 l2).objs.size=s.heap.objs.size+4:=by rw[dE,z3]
 have g5:(B0 s.heap l1 l2).get? (Fh s.heap l1 l2).objs.size=some _:=bX _ rfl
 have g4:(B0 s.heap l1 l2).get? (Fg s.heap l1 l2).objs.size=some _:=bE _ (bX _ rfl)
 have g3:(B0 s.heap l1 l2).get? (Ff s.heap l1 l2).objs.size=some _:=bE _ (bE _ (bX _ rfl))
 have g2:(B0 s.heap l1 l2).get? (s.heap.push (DR l1)).objs.size=some _:=bE _ (bE _ (bE _ (bX _ rfl)))
 have g1:(B0 s.heap l1 l2).get? s.heap.objs.size=some _:=bE _ (bE _ (bE _ (bE _ (bX _ rfl))))
 show _/\_
 rw[z2,z3,z4]at g5
 rw[z1,z2]at g3
 rw[z3]at g4
 rw[z1]at g2
 rw[z4]
 exact⟨⟨_,g5,rfl⟩,h _ g5 g3 g4 ⟨_,g1,rfl,rfl⟩ ⟨_,g2,rfl,rfl⟩ λc o x=>bE _ (bE _ (bE _ (bE _ (bE _ x))))⟩
noncomputable def Ip (K:bG)(a b:bI):It :=
 ⟨λi H=>∃xs ys x y,(gp K H a xs/\lN K H b ys)/\xs[i]?=some x/\ys[i]?=some y,λi H x H'=>∃p u v,H p=none/\x=.ref p/\H'=fM H p (.tup [u,v])/\(∀xs,gp K H a xs->xs[i]?=some u)/\∀ys,lN K H b ys->ys[i]?=some v,
  λi H=>∃xs ys,(gp K H a xs/\lN K H b ys)/\(xs.length<=i\/ys.length<=i)⟩
variable {oA:List Expr}{kt:Nat}
theorem Rl {w:cY}{K:bG}{pt:mZ}(z TI TO i1 i2 l1 l2:bI)(ap:ZipApart z TI TO i1 i2 l1 l2) :
    Turn P w K (.Tuple oA kt pt) (Ip K l1 l2) [z,TI,TO,i1,i2] z (λi h=>IsZip h z TI TO .none/\IsPair h TI (.ref i1) (.ref i2)/\(∃a b,IsPair h TO a b)/\h.IsListIter i1 l1 i/\h.IsTupleIter i2 l2 i) where
  mem:=by simp
  obj:=λi h st b hb=>by
    obtain⟨q1,q2,⟨a,b',q3⟩,⟨o4,e4,_,d4⟩,⟨o5,e5,_,d5⟩⟩:=st
    simp only[bL,cH,or_false]at hb
    rcases hb with rfl|rfl|rfl|rfl|rfl
    · exact⟨_,q1,λv y=>by cases y⟩
    · exact⟨_,q2,λv y=>by cases y⟩
    · exact⟨_,q3,λv y=>by cases y⟩
    · exact⟨_,e4,λv y=>by rw[d4]at y;cases y⟩
    · exact⟨_,e5,λv y=>by rw[d5]at y;cases y⟩
  keep:=λi h h' st k=>by
    obtain⟨q1,q2,⟨a,b',q3⟩,q4,o5,e5,r5⟩:=st
    exact⟨k z (by simp) _ q1,k TI (by simp) _ q2,⟨a,b',k TO (by simp) _ q3⟩,q4.at λo x=>k i1 (by simp) o x,o5,k i2 (by simp) _ e5,r5⟩
  item:=by
    intro X hP hw hK hc i bH s σ H E I hf st hg
    subst hP hw hK
    obtain⟨xs,ys,x,y,⟨hq,qY⟩,hx,hy⟩:=hg
    obtain⟨df,rv,p,hz⟩:=I.list hq
    obtain⟨its',zN,p',A9⟩:=I.tuple qY
    obtain⟨u,hu,ru⟩:=rv.get hx
    obtain⟨u',D8,GS⟩:=zN.get hy
    obtain⟨q1,q2,⟨a,b',q3⟩,q4,q5⟩:=st
    refine Qi ap q1 q2 q3 q4 q5 p.isList (show s.heap.IsTuple l2 its'.toArray from p') (x:=u) (y:=u') (by simpa using hu) (by simpa using D8) λh1 r1 r2 r3 r4 r5 hk=>?_
    refine⟨_,rfl,wpAny_letOwnedTupleGo_zip (s:={ s with heap:=h1 }) r1 λh2 Cw rL=>?_⟩
    have DP:z<s.heap.objs.size:=bR q1
    have Hc:TI<s.heap.objs.size:=bR q2
    have GH:TO<s.heap.objs.size:=bR q3
    have CS:i1<s.heap.objs.size:=by obtain⟨_,q,_⟩:=q4;exact bR q
    have Gw:i2<s.heap.objs.size:=by obtain⟨_,q,_⟩:=q5;exact bR q
    have Cm:h2.get? s.heap.objs.size=some { cls:=.type "tuple",data:=.seq #[u,u'] }:=(rL.2 _ (gP DP)).trans r5
    have Cy:H s.heap.objs.size=none:=I.hok.fresh (bY _)
    have I1:Inv X bH σ (fM H s.heap.objs.size (.tup [x,y])) { s with heap:=h2,toks:=s.toks }:=by
      refine I.turnLay (ch:=[z,TI,TO,i1,i2]) hf (λb o hb q=>?_) (bY _) ⟨by show 2<=sizeLine;decide,[u,u'],.cons ru (.cons GS .nil),_,Cm,rfl,_,rfl⟩
      have b1:b≠z:=λe=>hb (by simp[e])
      exact(rL.2 b b1).trans (hk b o b1 (λe=>hb (by simp[e])) (λe=>hb (by simp[e])) (λe=>hb (by simp[e])) q)
    obtain⟨o4,e4,c4⟩:=r4
    refine⟨.ref s.heap.objs.size,_,I1,rfl,⟨_,x,y,Cy,rfl,rfl,λzs yZ=>by rw[I.list_inj yZ hq];exact hx,λzs yZ=>by rw[I.tuple_inj yZ qY];exact hy⟩,⟨Cw,(rL.2 TI ap.TIz).trans (hk TI _ ap.TIz ap.TITO ap.TIi1 ap.TIi2 q2),⟨_,_,(rL.2 TO ap.TOz).trans r2⟩,r3.at λo q=>(rL.2 i1 ap.i1z).trans q,o4,(rL.2 i2 ap.i2z).trans e4,c4⟩,λb hb=>?_⟩
    rw[zp ?_]
    · exact(hf b hb).1
    · simp only[bL,cH,or_false]at hb
      rcases hb with rfl|rfl|rfl|rfl|rfl
      · exact cy DP
      · exact cy Hc
      · exact cy GH
      · exact cy CS
      · exact cy Gw
  done:=by
    intro X hP hw hK hc i bH s σ H E I hf st hg
    subst hP hw hK
    obtain⟨xs,ys,⟨hq,qY⟩,hx⟩:=hg
    obtain⟨df,rv,p,hz⟩:=I.list hq
    obtain⟨its',zN,p',A9⟩:=I.tuple qY
    obtain⟨q1,q2,⟨a,b',q3⟩,q4,q5⟩:=st
    have hl:=rv.length
    have qW:=zN.length
    refine Rj (I.ok.hd hc) ap q1 q2 q3 q4 q5 p.isList (show s.heap.IsTuple l2 its'.toArray from p') (hx.imp (λh=>by simp;omega) (λh=>by simp;omega)) λh' eb=>⟨rfl,I.turnedL (ch:=[z,TI,TO,i1,i2]) (t':=s.toks) hf λb o hb q=>?_⟩
    exact eb b o (λe=>hb (by simp[e])) (λe=>hb (by simp[e])) (λe=>hb (by simp[e])) (λe=>hb (by simp[e])) q
  self:=λ_ _ _ _ _ st h=>l6 st.1 h
variable {l:Expr}
section
variable {pt:mZ}
noncomputable def NO (K:bG)(ta:TA):TI:=λσ H R=>ta σ H λvs H1=>∃a b,vs=[.ref a,.ref b]/\(∃xs ys,gp K H1 a xs/\lN K H1 b ys)/\R (Ip K a b) H1
theorem UN {l':Expr}{ta:TA}(hg:Gl X "zip")(hm:X.mg "zip"=none)(ha:PA X [l,l'] ta)(hs:bK [l,l'] X.env=[(false,cO l X.env),(false,cO l' X.env)]:=by rfl)(qJ:bK [l'] X.env=[(false,cO l' X.env)]:=by rfl) :
  PI X (.Tuple oA kt pt) (.Call (.Name "zip" p) [l,l'] [] pos) (NO X.K ta):=by
 intro bH s σ H R I h
 refine Call_ (j0 I hg hm oN (eF (eL (ha pos bH s σ H _ I h) λus s1 ⟨vs,H1,I1,r1,q1⟩=>?_) (by rw[hs,qJ]) (by rw[qJ];rfl)))
 obtain⟨a,b,e,⟨xs,ys,hq,qY⟩,q⟩:=q1
 subst e
 cases r1 with
 |cons r rr=>
  cases rr with
  |cons r' rr=>
   cases rr
   cases r
   cases r'
   obtain⟨df,rv,pl,hz⟩:=I1.list hq
   obtain⟨its',zN,C9,A9⟩:=I1.tuple qY
   have GA:a<s1.heap.objs.size:=by obtain⟨_,q,_⟩:=pl.isList;exact bR q
   have Bd:b<s1.heap.objs.size:=by obtain⟨_,q,_⟩:=C9;exact bR q
   refine Rk pl.isList (show s1.heap.IsTuple b its'.toArray from C9) λh' r1 r2 r3 r4 r5 hk=>?_
   refine l6 (s:={ s1 with heap:=h' }) r1 ?_
   refine⟨_,[_,_,_,_,_],_,_,H1,rfl,I1.kept (t':=s1.toks) hk,(Rl _ _ _ _ _ a b (zipApart_new GA Bd)).ok,⟨r1,r2,⟨_,_,r3⟩,r4,r5⟩,λc hb=>?_,q⟩
   have:s1.heap.objs.size<=c:=by
    simp only[bL,cH,or_false]at hb
    rcases hb with rfl|rfl|rfl|rfl|rfl<;>omega
   exact I1.fpOk this (I1.hok.fresh this)
end
variable {tg:Expr}
variable {f:bI}{fd:bW}{ps:List Str}{sp:Sp}
end L2
namespace Fq
noncomputable def dv (t b:Int):Int:=if b<0 then -((Int.gcd t b:Nat):Int)else((Int.gcd t b:Nat):Int)
noncomputable def mk (t b:Int):Int×Int:=(t.fdiv (dv t b),b.fdiv (dv t b))
end Fq
namespace L3
open PySem PySem.Spec L2
open PyProof.Rows hiding St
inductive D where
 |non|bl (b:Bool)|int (i:Int)|str (x:Str)
 |lst (xs:List D)|tup (xs:List D)|dK (ks:List gN) (ds:List D)|dT (ks:List (List gN)) (ds:List D)
 |obj (c:Nat) (ns:List Str) (ds:List D)
 |exc (c:Nat) (ns:List Str) (ds:List D)
 |kt (xs:List D)
 deriving Inhabited
inductive Pr (R:D->V->Prop):List D->List V->Prop
 |nil:Pr R [] []
 |cons {d:D} {v:V} {ds:List D} {vs:List V}:R d v->Pr R ds vs->Pr R (d::ds) (v::vs)
variable {R:D->V->Prop}{ds:List D}
theorem Pr.mono {R':D->V->Prop}(f:∀d v,R d v->R' d v){vs:List V}(h:Pr R ds vs):Pr R' ds vs:=by
 induction h with
 |nil=>exact .nil
 |cons h t ih=>exact .cons (f _ _ h) ih
theorem Pr.length {vs:List V}(h:Pr R ds vs):ds.length=vs.length:=by
 induction h with
 |nil=>rfl
 |cons h t ih=>rw[bM,bM,ih]
variable {d:D}{i:Nat}
theorem Pr.get' {vs:List V}(h:Pr R ds vs)(e:ds[i]?=some d):∃v,vs[i]?=some v/\R d v:=by
 induction h generalizing i with
 |nil=>cases e
 |cons h t ih=>
  cases i with
  |zero=>cases e;exact⟨_,rfl,h⟩
  |succ i=>exact ih e
variable {us:List V}
theorem Pr.append {es:List D}{vs:List V}(h:Pr R ds vs)(s:Pr R es us):Pr R (ds++es) (vs++us):=by
 induction h with
 |nil=>exact s
 |cons h t ih=>exact .cons h ih
theorem Pr.take {vs:List V}(n:Nat)(h:Pr R ds vs):Pr R (ds.take n) (vs.take n):=by
 induction h generalizing n with
 |nil=>cases n<;>exact .nil
 |cons h t ih=>cases n with
  |zero=>exact .nil
  |succ n=>exact .cons h (ih n)
theorem Pr.drop {vs:List V}(n:Nat)(h:Pr R ds vs):Pr R (ds.drop n) (vs.drop n):=by
 induction h generalizing n with
 |nil=>cases n<;>exact .nil
 |cons h t ih=>cases n with
  |zero=>exact .cons h t
  |succ n=>exact ih n
theorem Pr.rep {vs:List V}(h:Pr R ds vs)(k:Nat):Pr R (bQ k ds).flatten (bQ k vs).flatten:=by
 induction k with
 |zero=>exact .nil
 |succ k ih=>rw[dX,gF,dX,gF];exact h.append ih
mutual
inductive Dt (K:bG)(ct:Nat->bI)(F:Hp):D->V->Prop
 |non:Dt K ct F .non .non
 |bl (b:Bool):Dt K ct F (.bl b) (.bl b)
 |int (i:Int):Dt K ct F (.int i) (.int i)
 |str (x:Str):Dt K ct F (.str x) (.str x)
 |lst {a:bI} {vs:List V} {ds:List D}:gp K F a vs->Dts K ct F ds vs->Dt K ct F (.lst ds) (.ref a)
 |tup {a:bI} {vs:List V} {ds:List D}:F a=some (.tup vs)->Dts K ct F ds vs->Dt K ct F (.tup ds) (.ref a)
 |dK {a:bI} {ks:List gN} {vs:List V} {ds:List D}:F a=some (.dK (ks.zip vs))->ks.length=vs.length->Dts K ct F ds vs->Dt K ct F (.dK ks ds) (.ref a)
 |dT {a:bI} {ks:List (List gN)} {vs:List V} {ds:List D}:Rd F a (.dT (ks.zip vs))->ks.length=vs.length->Dts K ct F ds vs->Dt K ct F (.dT ks ds) (.ref a)
 |obj {a dx:bI} {c:Nat} {ns:List Str} {vs:List V} {ds:List D}:F a=some (.ins (ct c) dx (ns.zip vs))->ns.length=vs.length->Dts K ct F ds vs->Dt K ct F (.obj c ns ds) (.ref a)
 |exc0 {a:bI} {c:Nat} {tb:Option bI}:F a=some (JE a (ct c) none tb)->Dt K ct F (.exc c [] []) (.ref a)
 |exc {a dx:bI} {c:Nat} {tb:Option bI} {ns:List Str} {vs:List V} {ds:List D}:F a=some (JE a (ct c) (some dx) tb)->F dx=some (.xd (ns.zip vs))->ns.length=vs.length->Dts K ct F ds vs->Dt K ct F (.exc c ns ds) (.ref a)
 |kt {a:bI} {vs:List V} {ds:List D}:B6 K a vs->Dts K ct F ds vs->Dt K ct F (.kt ds) (.ref a)
inductive Dts (K:bG)(ct:Nat->bI)(F:Hp):List D->List V->Prop
 |nil:Dts K ct F [] []
 |cons {d:D} {v:V} {ds:List D} {vs:List V}:Dt K ct F d v->Dts K ct F ds vs->Dts K ct F (d::ds) (v::vs)
end
variable {B B' F F' G G' H H':Hp}{K:bG}{ct:Nat->bI}
theorem Dts.pr {vs:List V}(h:Dts K ct F ds vs):Pr (Dt K ct F) ds vs:=by
 induction ds generalizing vs with
 |nil=>cases h;exact .nil
 |cons d ds ih=>cases h with|cons h t=>exact .cons h (ih t)
theorem Dts.of {vs:List V}(h:Pr (Dt K ct F) ds vs):Dts K ct F ds vs:=by
 induction h with
 |nil=>exact .nil
 |cons h t ih=>exact .cons h ih
theorem Dt.mono (s:cR F F'){v:V}(h:Dt K ct F d v):Dt K ct F' d v :=
 Dt.rec (motive_1:=λd v _=>Dt K ct F' d v) (motive_2:=λd v _=>Dts K ct F' d v) .non .bl .int .str (λh _ t=>.lst (s.seq h) t) (λh _ t=>.tup (s _ _ h) t) (λh l _ t=>.dK (s _ _ h) l t) (λh l _ t=>.dT (s.rd h) l t) (λh l _ t=>.obj (s _ _ h) l t) (λh=>.exc0 (s _ _ h)) (λh h' l _ t=>.exc (s _ _ h) (s _ _ h') l t) (λh _ t=>.kt h t) .nil (λ_ _ h t=>.cons h t) h
noncomputable def D.sc:D->Bool
 |.non=>true|.bl _=>true|.int _=>true|.str _=>true|_=>false
inductive Bz (K:bG)(ct:Nat->bI)(F G:Hp)(R:D->V->Prop):D->V->Prop
 |lst {a:bI} {vs:List V} {ds:List D}:G a=some (.lst vs)->Pr R ds vs->Bz K ct F G R (.lst ds) (.ref a)
 |tup {a:bI} {vs:List V} {ds:List D}:F a=some (.tup vs)->Pr R ds vs->Bz K ct F G R (.tup ds) (.ref a)
 |dK {a:bI} {ks:List gN} {vs:List V} {ds:List D}:G a=some (.dK (ks.zip vs))->ks.length=vs.length->Pr R ds vs->Bz K ct F G R (.dK ks ds) (.ref a)
 |dT {a:bI} {ks:List (List gN)} {vs:List V} {ds:List D}:Rd G a (.dT (ks.zip vs))->ks.length=vs.length->Pr R ds vs->Bz K ct F G R (.dT ks ds) (.ref a)
 |obj {a dx:bI} {c:Nat} {ns:List Str} {vs:List V} {ds:List D}:G a=some (.ins (ct c) dx (ns.zip vs))->ns.length=vs.length->Pr R ds vs->Bz K ct F G R (.obj c ns ds) (.ref a)
noncomputable def Al (K:bG)(ct:Nat->bI)(F G:Hp):Nat->D->V->Prop
 |0,d,v=>Dt K ct F d v
 |n+1,d,v=>Dt K ct F d v\/Bz K ct F G (Al K ct F G n) d v
inductive ie (R:D->V->List bI->Prop):List D->List V->List bI->Prop
 |nil:ie R [] [] []
 |cons {d:D} {v:V} {ds:List D} {vs:List V} {f g:List bI}:R d v f->ie R ds vs g->ie R (d::ds) (v::vs) (f++g)
inductive xR (K:bG)(ct:Nat->bI)(F H:Hp)(R:D->V->List bI->Prop):D->V->List bI->Prop
 |lst {a:bI} {vs:List V} {ds:List D} {fp:List bI}:F a=none->H a=some (.lst vs)->ie R ds vs fp->xR K ct F H R (.lst ds) (.ref a) (a::fp)
 |tup {a:bI} {vs:List V} {ds:List D} {fp:List bI}:F a=some (.tup vs)->ie R ds vs fp->xR K ct F H R (.tup ds) (.ref a) fp
 |dK {a:bI} {ks:List gN} {vs:List V} {ds:List D} {fp:List bI}:F a=none->H a=some (.dK (ks.zip vs))->ks.length=vs.length->ie R ds vs fp->xR K ct F H R (.dK ks ds) (.ref a) (a::fp)
 |dT {a:bI} {ks:List (List gN)} {vs:List V} {ds:List D} {fp:List bI}:F a=none->H a=some (.dT (ks.zip vs))->ks.length=vs.length->ie R ds vs fp->xR K ct F H R (.dT ks ds) (.ref a) (a::fp)
 |obj {a dx:bI} {c:Nat} {ns:List Str} {vs:List V} {ds:List D} {fp:List bI}:F a=none->H a=some (.ins (ct c) dx (ns.zip vs))->ns.length=vs.length->ie R ds vs fp->xR K ct F H R (.obj c ns ds) (.ref a) (a::fp)
noncomputable def Ow (K:bG)(ct:Nat->bI)(F H:Hp):Nat->D->V->List bI->Prop
 |0,d,v,fp=>Dt K ct F d v/\fp=[]
 |n+1,d,v,fp=>(d.sc=true/\Dt K ct F d v/\fp=[])\/xR K ct F H (Ow K ct F H n) d v fp
noncomputable def lB (o:HO):Prop:=∀xs,o≠.tup xs
structure iU (F H F' H':Hp):Prop where
 ff:cR F F'
 hh:cR H H'
 fh:cR F' H'
 nf:∀a o,H a=some o->lB o->F a=none->F' a=none
theorem iU.refl (h:cR F H):iU F H F H:=⟨.refl _,.refl _,h,λ_ _ _ _ h=>h⟩
theorem iU.trans {F1 H1 F2 H2:Hp}(a:iU F H F1 H1)(b:iU F1 H1 F2 H2):iU F H F2 H2 :=
 ⟨a.ff.trans b.ff,a.hh.trans b.hh,b.fh,λc o h t n=>b.nf c o (a.hh _ _ h) t (a.nf c o h t n)⟩
theorem iU.newO {p:bI}(s:cR F H)(h:H p=none)(o:HO):iU F H F (fM H p o) :=
 ⟨.refl _,xf h o,s.trans (xf h o),λ_ _ _ _ h=>h⟩
theorem iU.newS {p:bI}(s:cR F H)(h:H p=none)(o:HO):iU F H (fM F p o) (fM H p o) :=
  ⟨xf (s.free h) o,xf h o,λb u q=>by
    by_cases e:b=p
    · subst e;rw[zw]at q ⊢;exact q
    · rw[zp e]at q ⊢;exact s _ _ q,
   λb u q _ n=>by rw[zp (zu q h)];exact n⟩
variable {F0:Hp}{fp:List bI}{ks:List gN}{n:Nat}{x:Str}
theorem Al.mono (sF:cR F F')(sG:cR G G'):∀{d:D} {v:V},Al K ct F G n d v->Al K ct F' G' n d v:=by
 induction n with
 |zero=>exactλh=>Dt.mono sF h
 |succ n ih=>
  intro d v h
  rcases h with h|h
  ·exact .inl (Dt.mono sF h)
  ·cases h with
   |lst h p=>exact .inr (.lst (sG _ _ h) (p.mono λ_ _ q=>ih q))
   |tup h p=>exact .inr (.tup (sF _ _ h) (p.mono λ_ _ q=>ih q))
   |dK h l p=>exact .inr (.dK (sG _ _ h) l (p.mono λ_ _ q=>ih q))
   |dT h l p=>exact .inr (.dT (sG.rd h) l (p.mono λ_ _ q=>ih q))
   |obj h l p=>exact .inr (.obj (sG _ _ h) l (p.mono λ_ _ q=>ih q))
theorem Al.of:∀{n:Nat} {d:D} {v:V},Dt K ct F d v->Al K ct F G n d v
 |0,_,_,h=>h
 |_+1,_,_,h=>.inl h
theorem Dt.scal {v:V}(h:Dt K ct F d v)(hs:d.sc=true):Dt K ct F' d v:=by
 cases h with
 |non=>exact .non
 |bl b=>exact .bl b
 |int i=>exact .int i
 |str x=>exact .str x
 |lst _ _=>cases hs
 |tup _ _=>cases hs
 |dK _ _ _=>cases hs
 |dT _ _ _=>cases hs
 |obj _ _ _=>cases hs
 |exc0 _=>cases hs
 |exc _ _ _ _=>cases hs
 |kt _ _=>cases hs
theorem Al.scal {v:V}(h:Al K ct F G n d v)(hs:d.sc=true):Dt K ct F' d v:=by
 cases n with
 |zero=>exact Dt.scal h hs
 |succ n=>
  rcases h with h|h
  ·exact h.scal hs
  ·cases h<;>cases hs
theorem Al.int {i:Int}{v:V}(h:Al K ct F G n (.int i) v):v=.int i:=by
 have q:=Al.scal (F':=F) h rfl
 cases q;rfl
theorem Al.bl {b:Bool}{v:V}(h:Al K ct F G n (.bl b) v):v=.bl b:=by
 have q:=Al.scal (F':=F) h rfl
 cases q;rfl
theorem Al.str {v:V}(h:Al K ct F G n (.str x) v):v=.str x:=by
 have q:=Al.scal (F':=F) h rfl
 cases q;rfl
theorem Al.non {v:V}(h:Al K ct F G n .non v):v=.non:=by
 have q:=Al.scal (F':=F) h rfl
 cases q;rfl
theorem Al.lst {v:V}(h:Al K ct F G n (.lst ds) v)(s:cR F G):∃a vs,v=.ref a/\gp K G a vs/\Pr (Al K ct F G (n-1)) ds vs:=by
 cases n with
 |zero=>
  have h:Dt K ct F (.lst ds) v:=h
  cases h with
  |lst q t=>exact⟨_,_,rfl,s.seq q,t.pr⟩
 |succ n=>
  rcases h with h|h
  ·cases h with
   |lst q t=>exact⟨_,_,rfl,s.seq q,t.pr.mono λ_ _=>Al.of⟩
  ·cases h with
   |lst q t=>exact⟨_,_,rfl,gp.of q,t⟩
theorem Al.tup {v:V}(h:Al K ct F G n (.tup ds) v)(s:cR F G):∃a vs,v=.ref a/\G a=some (.tup vs)/\Pr (Al K ct F G (n-1)) ds vs:=by
 cases n with
 |zero=>
  have h:Dt K ct F (.tup ds) v:=h
  cases h with
  |tup q t=>exact⟨_,_,rfl,s _ _ q,t.pr⟩
 |succ n=>
  rcases h with h|h
  ·cases h with
   |tup q t=>exact⟨_,_,rfl,s _ _ q,t.pr.mono λ_ _=>Al.of⟩
  ·cases h with
   |tup q t=>exact⟨_,_,rfl,s _ _ q,t⟩
theorem Al.dK {v:V}(h:Al K ct F G n (.dK ks ds) v)(s:cR F G):∃a vs,v=.ref a/\G a=some (.dK (ks.zip vs))/\ks.length=vs.length/\Pr (Al K ct F G (n-1)) ds vs:=by
 cases n with
 |zero=>
  have h:Dt K ct F (.dK ks ds) v:=h
  cases h with
  |dK q l t=>exact⟨_,_,rfl,s _ _ q,l,t.pr⟩
 |succ n=>
  rcases h with h|h
  ·cases h with
   |dK q l t=>exact⟨_,_,rfl,s _ _ q,l,t.pr.mono λ_ _=>Al.of⟩
  ·cases h with
   |dK q l t=>exact⟨_,_,rfl,q,l,t⟩
theorem Al.dT {ks:List (List gN)}{v:V}(h:Al K ct F G n (.dT ks ds) v)(s:cR F G):∃a vs,v=.ref a/\Rd G a (.dT (ks.zip vs))/\ks.length=vs.length/\Pr (Al K ct F G (n-1)) ds vs:=by
 cases n with
 |zero=>
  have h:Dt K ct F (.dT ks ds) v:=h
  cases h with
  |dT q l t=>exact⟨_,_,rfl,s.rd q,l,t.pr⟩
 |succ n=>
  rcases h with h|h
  ·cases h with
   |dT q l t=>exact⟨_,_,rfl,s.rd q,l,t.pr.mono λ_ _=>Al.of⟩
  ·cases h with
   |dT q l t=>exact⟨_,_,rfl,q,l,t⟩
theorem Al.obj {c:Nat}{ns:List Str}{v:V}(h:Al K ct F G n (.obj c ns ds) v)(s:cR F G):∃a dx vs,v=.ref a/\G a=some (.ins (ct c) dx (ns.zip vs))/\ns.length=vs.length/\Pr (Al K ct F G (n-1)) ds vs:=by
 cases n with
 |zero=>
  have h:Dt K ct F (.obj c ns ds) v:=h
  cases h with
  |obj q l t=>exact⟨_,_,_,rfl,s _ _ q,l,t.pr⟩
 |succ n=>
  rcases h with h|h
  ·cases h with
   |obj q l t=>exact⟨_,_,_,rfl,s _ _ q,l,t.pr.mono λ_ _=>Al.of⟩
  ·cases h with
   |obj q l t=>exact⟨_,_,_,rfl,q,l,t⟩
theorem Al.kt {v:V}(h:Al K ct F G n (.kt ds) v):∃a vs,v=.ref a/\B6 K a vs/\Pr (Dt K ct F) ds vs:=by
 have h:Dt K ct F (.kt ds) v:=by
  cases n with
  |zero=>exact h
  |succ n=>
   rcases h with h|h
   ·exact h
   ·cases h
 cases h with
 |kt q t=>exact⟨_,_,rfl,q,t.pr⟩
theorem ie.mono {R R':D->V->List bI->Prop}{vs:List V}(h:ie R ds vs fp):(∀d v f,(∀a∈f,a∈fp)->R d v f->R' d v f)->ie R' ds vs fp:=by
 induction h with
 |nil=>exactλ_=>.nil
 |cons h t ih=>exactλq=>.cons (q _ _ _ (λa z=>cG _ z) h) (ih λd v f i r=>q d v f (λa z=>bZ _ (i a z)) r)
theorem ie.pr {R:D->V->List bI->Prop}{R':D->V->Prop}{vs:List V}(h:ie R ds vs fp):(∀d v f,(∀a∈f,a∈fp)->R d v f->R' d v)->Pr R' ds vs:=by
 induction h with
 |nil=>exactλ_=>.nil
 |cons h t ih=>exactλq=>.cons (q _ _ _ (λa z=>cG _ z) h) (ih λd v f i r=>q d v f (λa z=>bZ _ (i a z)) r)
theorem ie.ofPr {R:D->V->List bI->Prop}{vs:List V}(h:Pr (λd v=>R d v []) ds vs):ie R ds vs []:=by
 induction h with
 |nil=>exact .nil
 |cons h t ih=>exact ie.cons (f:=[]) (g:=[]) h ih
theorem ie.append {R:D->V->List bI->Prop}{es:List D}{vs:List V}{f g:List bI}(h:ie R ds vs f)(s:ie R es us g):ie R (ds++es) (vs++us) (f++g):=by
 induction h with
 |nil=>exact s
 |cons h t ih=>rw[dz];exact .cons h ih
theorem ie.length {R:D->V->List bI->Prop}{vs:List V}(h:ie R ds vs fp):ds.length=vs.length:=by
 induction h with
 |nil=>rfl
 |cons _ t ih=>simp[ih]
theorem Ow.frame (sF:cR F F'):∀{d:D} {v:V} {fp:List bI},Ow K ct F H n d v fp->(∀a∈fp,H' a=H a/\F' a=none)->Ow K ct F' H' n d v fp:=by
 induction n with
 |zero=>exactλh _=>⟨h.1.mono sF,h.2⟩
 |succ n ih=>
  intro d v fp h k
  rcases h with h|h
  ·exact .inl ⟨h.1,h.2.1.mono sF,h.2.2⟩
  ·cases h with
   |lst hn h p=>exact .inr (.lst (k _ bF).2 ((k _ bF).1.trans h) (p.mono λ_ _ _ i q=>ih q λa z=>k a (bJ _ (i a z))))
   |tup h p=>exact .inr (.tup (sF _ _ h) (p.mono λ_ _ _ i q=>ih q λa z=>k a (i a z)))
   |dK hn h l p=>exact .inr (.dK (k _ bF).2 ((k _ bF).1.trans h) l (p.mono λ_ _ _ i q=>ih q λa z=>k a (bJ _ (i a z))))
   |dT hn h l p=>exact .inr (.dT (k _ bF).2 ((k _ bF).1.trans h) l (p.mono λ_ _ _ i q=>ih q λa z=>k a (bJ _ (i a z))))
   |obj hn h l p=>exact .inr (.obj (k _ bF).2 ((k _ bF).1.trans h) l (p.mono λ_ _ _ i q=>ih q λa z=>k a (bJ _ (i a z))))
theorem ie.cells0 {R:D->V->List bI->Prop}(k:∀d v f,R d v f->∀a∈f,F a=none/\∃o,H a=some o/\lB o){vs:List V}(h:ie R ds vs fp):∀a∈fp,F a=none/\∃o,H a=some o/\lB o:=by
 induction h with
 |nil=>exactλa z=>by cases z
 |cons h t ih=>exactλa z=>(cL.mp z).elim (λz=>k _ _ _ h a z) (ih a)
theorem Ow.cells:∀{d:D} {v:V} {fp:List bI},Ow K ct F H n d v fp->∀a∈fp,F a=none/\∃o,H a=some o/\lB o:=by
 induction n with
 |zero=>exactλh a z=>by rw[h.2]at z;cases z
 |succ n ih=>
  intro d v fp h a z
  rcases h with h|h
  ·rw[h.2.2]at z;cases z
  ·cases h with
   |lst hn h p=>exact(bL.mp z).elim (λe=>by rw[e];exact⟨hn,_,h,nofun⟩) (ie.cells0 (λd v f q=>ih q) p a)
   |tup h p=>exact ie.cells0 (λd v f q=>ih q) p a z
   |dK hn h l p=>exact(bL.mp z).elim (λe=>by rw[e];exact⟨hn,_,h,nofun⟩) (ie.cells0 (λd v f q=>ih q) p a)
   |dT hn h l p=>exact(bL.mp z).elim (λe=>by rw[e];exact⟨hn,_,h,nofun⟩) (ie.cells0 (λd v f q=>ih q) p a)
   |obj hn h l p=>exact(bL.mp z).elim (λe=>by rw[e];exact⟨hn,_,h,nofun⟩) (ie.cells0 (λd v f q=>ih q) p a)
theorem Ow.ext {v:V}(h:Ow K ct F H n d v fp)(e:iU F H F' H'):Ow K ct F' H' n d v fp :=
 h.frame e.ff λa z=>by
  obtain⟨hn,o,ho,nt⟩:=h.cells a z
  exact⟨(e.hh _ _ ho).trans ho.symm,e.nf a o ho nt hn⟩
theorem Ow.al (s:cR F H):∀{d:D} {v:V} {fp:List bI},Ow K ct F H n d v fp->Al K ct F H n d v:=by
 induction n with
 |zero=>exactλh=>h.1
 |succ n ih=>
  intro d v fp h
  rcases h with h|h
  ·exact .inl h.2.1
  ·cases h with
   |lst hn h p=>exact .inr (.lst h (p.pr λ_ _ _ _ q=>ih q))
   |tup h p=>exact .inr (.tup h (p.pr λ_ _ _ _ q=>ih q))
   |dK hn h l p=>exact .inr (.dK h l (p.pr λ_ _ _ _ q=>ih q))
   |dT hn h l p=>exact .inr (.dT (.inl h) l (p.pr λ_ _ _ _ q=>ih q))
   |obj hn h l p=>exact .inr (.obj h l (p.pr λ_ _ _ _ q=>ih q))
theorem Ow.dt (sF:cR F F'):∀{d:D} {v:V} {fp:List bI},Ow K ct F H n d v fp->(∀a∈fp,F' a=H a)->Dt K ct F' d v:=by
 induction n with
 |zero=>exactλh _=>h.1.mono sF
 |succ n ih=>
  intro d v fp h k
  rcases h with h|h
  ·exact h.2.1.mono sF
  ·cases h with
   |lst hn h p=>exact .lst (gp.of ((k _ bF).trans h)) (.of (p.pr λ_ _ _ i q=>ih q λa z=>k a (bJ _ (i a z))))
   |tup h p=>exact .tup (sF _ _ h) (.of (p.pr λ_ _ _ i q=>ih q λa z=>k a (i a z)))
   |dK hn h l p=>exact .dK ((k _ bF).trans h) l (.of (p.pr λ_ _ _ i q=>ih q λa z=>k a (bJ _ (i a z))))
   |dT hn h l p=>exact .dT (.inl ((k _ bF).trans h)) l (.of (p.pr λ_ _ _ i q=>ih q λa z=>k a (bJ _ (i a z))))
   |obj hn h l p=>exact .obj ((k _ bF).trans h) l (.of (p.pr λ_ _ _ i q=>ih q λa z=>k a (bJ _ (i a z))))
noncomputable def ku (F H:Hp)(fp:List bI):Hp:=λa=>if a∈fp then H a else F a
theorem xk (s:cR F H)(hf:∀a∈fp,F a=none):cR F (ku F H fp)/\cR (ku F H fp) H/\∀a∈fp,ku F H fp a=H a:=by
 refine⟨λa o h=>?_,λa o h=>?_,λa z=>if_pos z⟩
 ·have:¬a∈fp:=λz=>by rw[hf a z]at h;cases h
  unfold ku;rw[if_neg this];exact h
 ·unfold ku at h
  by_cases z:a∈fp
  ·rw[if_pos z]at h;exact h
  ·rw[if_neg z]at h;exact s _ _ h
theorem Ow.freeze {v:V}{H0:Hp}(h:Ow K ct F H n d v fp)(e:iU F0 H0 F H)(hf:∀a∈fp,H0 a=none):∃F',iU F0 H0 F' H/\Dt K ct F' d v:=by
 obtain⟨w1,w2,w3⟩:=xk (fp:=fp) e.fh (λa z=>(h.cells a z).1)
 refine⟨ku F H fp,⟨e.ff.trans w1,e.hh,w2,λa o ho nt hn=>?_⟩,h.dt w1 w3⟩
 have:¬a∈fp:=λz=>by rw[hf a z]at ho;cases ho
 unfold ku;rw[if_neg this];exact e.nf a o ho nt hn
theorem Ow.zero {v:V}(h:Dt K ct F d v):Ow K ct F H 0 d v []:=⟨h,rfl⟩
theorem Ow.scal {v:V}(h:Dt K ct F d v)(hs:d.sc=true):Ow K ct F H n d v []:=by
 cases n with
 |zero=>exact⟨h,rfl⟩
 |succ n=>exact .inl ⟨hs,h,rfl⟩
noncomputable abbrev Env:=List (Option D)
inductive Mo where
 |al (n:Nat)|ow (n:Nat)|px (v:V)|so (x:bI)
noncomputable def Mo.lv:Mo->Nat
 |.al n=>n
 |.ow n=>n
 |.px _=>1
 |.so _=>1
section
variable (K:bG)(ct:Nat->bI)
inductive SL (F B H:Hp):List Mo->Env->St->List bI->Prop
 |nil:SL F B H [] [] [] []
 |no {m:Mo} {o:Option V} {ms:List Mo} {ρ:Env} {σ:St} {fp:List bI}:SL F B H ms ρ σ fp->SL F B H (m::ms) (none::ρ) (o::σ) fp
 |al {n:Nat} {d:D} {v:V} {ms:List Mo} {ρ:Env} {σ:St} {fp:List bI}:Al K ct F B n d v->SL F B H ms ρ σ fp->SL F B H (.al n::ms) (some d::ρ) (some v::σ) fp
 |px {d:D} {v:V} {ms:List Mo} {ρ:Env} {σ:St} {fp:List bI}:Al K ct F B 1 d v->SL F B H ms ρ σ fp->SL F B H (.px v::ms) (some d::ρ) (some v::σ) fp
 |so {d:D} {x:bI} {ms:List Mo} {ρ:Env} {σ:St} {fp:List bI}:Ow K ct F H 1 d (.ref x) [x]->SL F B H ms ρ σ fp->SL F B H (.so x::ms) (some d::ρ) (some (.ref x)::σ) (x::fp)
 |ow {n:Nat} {d:D} {v:V} {ms:List Mo} {ρ:Env} {σ:St} {f fp:List bI}:Ow K ct F H n d v f->SL F B H ms ρ σ fp->SL F B H (.ow n::ms) (some d::ρ) (some v::σ) (f++fp)
structure RS (F0 B:Hp)(ms:List Mo)(F H:Hp)(ρ:Env)(σ:St):Prop where
 f0:cR F0 F
 bh:cR B H
 fh:cR F H
 nf:∀a o,B a=some o->lB o->F0 a=none->F a=none
 sl:∃fp,SL K ct F B H ms ρ σ fp/\fp.Nodup/\∀a∈fp,B a=none
end
variable {k:Nat}{ms:List Mo}{ρ:Env}{σ:St}
theorem SL.cells (h:SL K ct F B H ms ρ σ fp):∀a∈fp,F a=none/\∃o,H a=some o/\lB o:=by
 induction h with
 |nil=>intro a z;cases z
 |no t ih=>exact ih
 |al _ t ih=>exact ih
 |px _ t ih=>exact ih
 |so h t ih=>exactλa z=>(bL.mp z).elim (λz=>h.cells a (by rw[z];exact bF)) (ih a)
 |ow h t ih=>exactλa z=>(cL.mp z).elim (h.cells a) (ih a)
theorem SL.frame (sF:cR F F')(h:SL K ct F B H ms ρ σ fp):(∀a∈fp,H' a=H a/\F' a=none)->SL K ct F' B H' ms ρ σ fp:=by
 induction h with
 |nil=>exactλ_=>.nil
 |no t ih=>exactλk=>.no (ih k)
 |al h t ih=>exactλk=>.al (h.mono sF (.refl _)) (ih k)
 |px h t ih=>exactλk=>.px (h.mono sF (.refl _)) (ih k)
 |so h t ih=>exactλk=>.so (h.frame sF λa z=>k a (by rw[cj]at z;rw[z];exact bF)) (ih λa z=>k a (bJ _ z))
 |ow h t ih=>exactλk=>.ow (h.frame sF λa z=>k a (cG _ z)) (ih λa z=>k a (bZ _ z))
theorem RS.ext (r:RS K ct F0 B ms F H ρ σ)(e:iU F H F' H'):RS K ct F0 B ms F' H' ρ σ:=by
 obtain⟨fp,s,nd,hb⟩:=r.sl
 refine⟨r.f0.trans e.ff,r.bh.trans e.hh,e.fh,λa o h t n=>e.nf a o (r.bh _ _ h) t (r.nf a o h t n),fp,s.frame e.ff λa z=>?_,nd,hb⟩
 obtain⟨hn,o,ho,nt⟩:=s.cells a z
 exact⟨(e.hh _ _ ho).trans ho.symm,e.nf a o ho nt hn⟩
theorem SL.get {m:Mo}(h:SL K ct F B H ms ρ σ fp)(s:cR F H)(s':cR B H):ms[i]?=some m->ρ[i]?=some (some d)->∃v,σ[i]?=some (some v)/\Al K ct F H m.lv d v:=by
 induction h generalizing i with
 |nil=>intro e;simp at e
 |no t ih=>
  intro e e'
  cases i with
  |zero=>simp at e'
  |succ i=>simpa using ih (by simpa using e) (by simpa using e')
 |al h t ih=>
  intro e e'
  cases i with
  |zero=>
   simp at e e';subst e;subst e'
   exact⟨_,rfl,h.mono (.refl _) s'⟩
  |succ i=>simpa using ih (by simpa using e) (by simpa using e')
 |px h t ih=>
  intro e e'
  cases i with
  |zero=>
   simp at e e';subst e;subst e'
   exact⟨_,rfl,h.mono (.refl _) s'⟩
  |succ i=>simpa using ih (by simpa using e) (by simpa using e')
 |so h t ih=>
  intro e e'
  cases i with
  |zero=>
   simp at e e';subst e;subst e'
   exact⟨_,rfl,h.al s⟩
  |succ i=>simpa using ih (by simpa using e) (by simpa using e')
 |ow h t ih=>
  intro e e'
  cases i with
  |zero=>
   simp at e e';subst e;subst e'
   exact⟨_,rfl,h.al s⟩
  |succ i=>simpa using ih (by simpa using e) (by simpa using e')
theorem RS.get (r:RS K ct F0 B ms F H ρ σ){m:Mo}(hm:ms[i]?=some m)(e:ρ[i]?=some (some d)):∃v,σ[i]?=some (some v)/\Al K ct F H m.lv d v:=by
 obtain⟨fp,s,_,_⟩:=r.sl
 exact s.get r.fh r.bh hm e
theorem SL.put (h0:SL K ct F B H ms ρ σ fp):ms[i]?=some (.ow k) ->
  ∃f1 fr:List bI,(∀a∈f1,a∈fp)/\(∀a∈fr,a∈fp)/\(fp.Nodup->f1.Nodup/\fr.Nodup/\∀a∈f1,a∉fr)/\(∀d,ρ[i]?=some (some d)->∃v,σ[i]?=some (some v)/\Ow K ct F H k d v f1) /\
   ∀(F' H':Hp) (d':D) (v':V) (f':List bI),cR F F'->(∀a∈fr,H' a=H a/\F' a=none)->Ow K ct F' H' k d' v' f' ->
    ∃ke,SL K ct F' B H' ms (ρ.set i (some d')) (σ.set i (some v')) ke/\(∀a∈ke,a∈f'\/a∈fr)/\(f'.Nodup->fr.Nodup->(∀a∈f',a∉fr)->ke.Nodup):=by
 induction h0 generalizing i with
 |nil=>
  intro e
  simp at e
 |@no m0 o0 ms ρ σ fp t ih=>
  intro e
  cases i with
  |zero=>
   simp at e;subst e
   refine⟨[],fp,λa z=>(by cases z),λa z=>z,λn=>⟨cQ,n,λa z=>(by cases z)⟩,λd q=>(by simp at q),λF' H' d' v' f' s kf h=>⟨f'++fp,.ow h (t.frame s kf),λa z=>cL.mp z,λn1 n2 dj=>?_⟩⟩
   exact cI.mpr ⟨n1,n2,λa z b zb e=>dj a z (e▸zb)⟩
  |succ i=>
   obtain⟨f1,fr,h1,h2,h3,h4,h5⟩:=ih (i:=i) (by simpa using e)
   refine⟨f1,fr,h1,h2,h3,λd q=>by simpa using h4 d (by simpa using q),λF' H' d' v' f' s kf h=>?_⟩
   obtain⟨ke,q1,q2,q3⟩:=h5 F' H' d' v' f' s kf h
   exact⟨ke,.no q1,q2,q3⟩
 |@al n0 d0 v0 ms ρ σ fp h t ih=>
  intro e
  cases i with
  |zero=>
   simp at e
  |succ i=>
   obtain⟨f1,fr,h1,h2,h3,h4,h5⟩:=ih (i:=i) (by simpa using e)
   refine⟨f1,fr,h1,h2,h3,λd q=>by simpa using h4 d (by simpa using q),λF' H' d' v' f' s kf h'=>?_⟩
   obtain⟨ke,q1,q2,q3⟩:=h5 F' H' d' v' f' s kf h'
   exact⟨ke,.al (h.mono s (.refl _)) q1,q2,q3⟩
 |@px d0 v0 ms ρ σ fp h t ih=>
  intro e
  cases i with
  |zero=>
   simp at e
  |succ i=>
   obtain⟨f1,fr,h1,h2,h3,h4,h5⟩:=ih (i:=i) (by simpa using e)
   refine⟨f1,fr,h1,h2,h3,λd q=>by simpa using h4 d (by simpa using q),λF' H' d' v' f' s kf h'=>?_⟩
   obtain⟨ke,q1,q2,q3⟩:=h5 F' H' d' v' f' s kf h'
   exact⟨ke,.px (h.mono s (.refl _)) q1,q2,q3⟩
 |@so d0 x ms ρ σ fp h t ih=>
  intro e
  cases i with
  |zero=>
   simp at e
  |succ i=>
   obtain⟨f1,fr,h1,h2,h3,h4,h5⟩:=ih (i:=i) (by simpa using e)
   refine⟨f1,x::fr,λa z=>bJ _ (h1 a z),λa z=>(bL.mp z).elim (λz=>by rw[z];exact bF) λz=>bJ _ (h2 a z),λn=>?_,λd q=>by simpa using h4 d (by simpa using q),λF' H' d' v' f' s kf h'=>?_⟩
   ·obtain⟨n1,n2⟩:=cX.mp n
    obtain⟨m1,m2,m3⟩:=h3 n2
    refine⟨m1,cX.mpr ⟨λz=>n1 (h2 x z),m2⟩,λa z zb=>?_⟩
    rcases bL.mp zb with zb|zb
    ·rw[zb]at z;exact n1 (h1 x z)
    ·exact m3 a z zb
   ·obtain⟨ke,q1,q2,q3⟩:=h5 F' H' d' v' f' s (λa z=>kf a (bJ _ z)) h'
    refine⟨x::ke,.so (h.frame s λa z=>kf a (by rw[cj]at z;rw[z];exact bF)) q1,λa z=>?_,λn1 n2 dj=>?_⟩
    ·rcases bL.mp z with z|z
     ·exact .inr (by rw[z];exact bF)
     ·exact(q2 a z).imp id λz=>bJ _ z
    ·obtain⟨m1,m2⟩:=cX.mp n2
     refine cX.mpr ⟨λz=>?_,q3 n1 m2 λa z zb=>dj a z (bJ _ zb)⟩
     rcases q2 x z with z|z
     ·exact dj x z bF
     ·exact m1 z
 |@ow n0 d0 v0 ms ρ σ f fp h t ih=>
  intro e
  cases i with
  |zero=>
   simp at e;subst e
   refine⟨f,fp,λa z=>cG _ z,λa z=>bZ _ z,λn=>?_,λd q=>?_,λF' H' d' v' f' s kf h=>⟨f'++fp,.ow h (t.frame s kf),λa z=>cL.mp z,λn1 n2 dj=>?_⟩⟩
   ·obtain⟨n1,n2,n3⟩:=cI.mp n
    exact⟨n1,n2,λa z zb=>n3 a z a zb rfl⟩
   ·simp at q;subst q;exact⟨_,rfl,h⟩
   ·exact cI.mpr ⟨n1,n2,λa z b zb e=>dj a z (e▸zb)⟩
  |succ i=>
   obtain⟨f1,fr,h1,h2,h3,h4,h5⟩:=ih (i:=i) (by simpa using e)
   refine⟨f1,f++fr,λa z=>bZ _ (h1 a z),λa z=>(cL.mp z).elim (λz=>cG _ z) λz=>bZ _ (h2 a z),λn=>?_,λd q=>by simpa using h4 d (by simpa using q),λF' H' d' v' f' s kf h'=>?_⟩
   ·obtain⟨n1,n2,n3⟩:=cI.mp n
    obtain⟨m1,m2,m3⟩:=h3 n2
    refine⟨m1,cI.mpr ⟨n1,m2,λa z b zb=>n3 a z b (h2 b zb)⟩,λa z zb=>?_⟩
    rcases cL.mp zb with zb|zb
    ·exact n3 a zb a (h1 a z) rfl
    ·exact m3 a z zb
   ·obtain⟨ke,q1,q2,q3⟩:=h5 F' H' d' v' f' s (λa z=>kf a (bZ _ z)) h'
    refine⟨f++ke,.ow (h.frame s λa z=>kf a (cG _ z)) q1,λa z=>?_,λn1 n2 dj=>?_⟩
    ·rcases cL.mp z with z|z
     ·exact .inr (cG _ z)
     ·exact(q2 a z).imp id λz=>bZ _ z
    ·obtain⟨m1,m2,m3⟩:=cI.mp n2
     refine cI.mpr ⟨m1,q3 n1 m2 λa z zb=>dj a z (bZ _ zb),λa z b zb e=>?_⟩
     subst e
     rcases q2 a zb with zb|zb
     ·exact dj a zb (cG _ z)
     ·exact m3 a z a zb rfl
noncomputable abbrev EF:=Env->Option D
inductive mC (K:bG)(ct:Nat->bI)(F G:Hp):List Nat->List D->List V->Prop
 |nil:mC K ct F G [] [] []
 |cons {n:Nat} {d:D} {v:V} {ns:List Nat} {ds:List D} {vs:List V}:Al K ct F G n d v->mC K ct F G ns ds vs->mC K ct F G (n::ns) (d::ds) (v::vs)
variable {ns:List Nat}
theorem mC.mono (sF:cR F F')(sG:cR G G'){vs:List V}(h:mC K ct F G ns ds vs):mC K ct F' G' ns ds vs:=by
 induction h with
 |nil=>exact .nil
 |cons h t ih=>exact .cons (h.mono sF sG) ih
theorem mC.length {vs:List V}(h:mC K ct F G ns ds vs):vs.length=ns.length:=by
 induction h with
 |nil=>rfl
 |cons h t ih=>rw[bM,bM,ih]
theorem mC.length' {vs:List V}(h:mC K ct F G ns ds vs):ds.length=vs.length:=by
 induction h with
 |nil=>rfl
 |cons h t ih=>rw[bM,bM,ih]
theorem mC.append {Em:List Nat}{sR:List D}{Hd:List V}(q:mC K ct F G Em sR Hd){vs:List V}(h:mC K ct F G ns ds vs):mC K ct F G (ns++Em) (ds++sR) (vs++Hd):=by
 induction h with
 |nil=>exact q
 |cons h t ih=>exact .cons h ih
section
variable (X:Cx)(ct:Nat->bI)(ms:List Mo)
noncomputable def XE (n:Nat)(e:Expr)(f:EF):Prop:=∃t,PE X e t/\∀(F0 B F H:Hp) (ρ:Env) (σ:St) (d:D) (Q:VK),RS X.K ct F0 B ms F H ρ σ->f ρ=some d ->
 (∀v F' H',iU F H F' H'->Al X.K ct F' H' n d v->Q v H')->t σ H Q
noncomputable def XO (k:Nat)(e:Expr)(f:EF):Prop:=∃t,PE X e t/\∀(F0 B F H:Hp) (ρ:Env) (σ:St) (d:D) (Q:VK),RS X.K ct F0 B ms F H ρ σ->f ρ=some d ->
 (∀v F' H' fp,iU F H F' H'->Ow X.K ct F' H' k d v fp->fp.Nodup->(∀a∈fp,H a=none)->Q v H')->t σ H Q
noncomputable def XT (e:Expr)(f:Env->Option Bool):Prop:=∃t,PT X e t/\∀(F0 B F H:Hp) (ρ:Env) (σ:St) (b:Bool) (Q:Bool->Hp->Prop),RS X.K ct F0 B ms F H ρ σ->f ρ=some b ->
 (∀F' H',iU F H F' H'->Q b H')->t σ H Q
noncomputable def XW (e:Expr)(f:Env->Option Bool):Prop:=∃t,PW X e t/\∀(F0 B F H:Hp) (ρ:Env) (σ:St) (b:Bool) (Q:Bool->Hp->Prop),RS X.K ct F0 B ms F H ρ σ->f ρ=some b ->
 (∀F' H',iU F H F' H'->Q b H')->t σ H Q
noncomputable def XA (es:List Expr)(ns:List Nat)(f:Env->Option (List D)):Prop:=∃t,PA X es t/\(∀ρ ds,f ρ=some ds->ds.length=es.length)/\∀(F0 B F H:Hp) (ρ:Env) (σ:St) (ds:List D) (Q:List V->Hp->Prop),RS X.K ct F0 B ms F H ρ σ->f ρ=some ds ->
 (∀vs F' H',iU F H F' H'->mC X.K ct F' H' ns ds vs->Q vs H')->t σ H Q
end
noncomputable def e2 (op:D->D->Option D)(f g:EF):EF:=λρ=>(f ρ).bind λx=>(g ρ).bind λy=>op x y
noncomputable def e1 (op:D->Option D)(f:EF):EF:=λρ=>(f ρ).bind op
noncomputable def eN (op:List D->Option D)(f:Env->Option (List D)):EF:=λρ=>(f ρ).bind op
noncomputable def eC (d:D):EF:=λ_=>some d
noncomputable def eV (i:Nat):EF:=λρ=>(ρ[i]?).join
noncomputable def aNil:Env->Option (List D):=λ_=>some []
noncomputable def aCons (f:EF)(g:Env->Option (List D)):Env->Option (List D):=λρ=>(f ρ).bind λx=>(g ρ).bind λxs=>some (x::xs)
variable {α β:Type}
theorem eM {γ:Type}{o:Option α}{p:Option β}{op:α->β->Option γ}{r:γ}(h:(o.bind λx=>p.bind λy=>op x y)=some r):∃x y,o=some x/\p=some y/\op x y=some r:=by
 cases o with
 |none=>cases h
 |some x=>
  cases p with
  |none=>cases h
  |some y=>exact⟨x,y,rfl,rfl,h⟩
theorem ck {o:Option α}{op:α->Option β}{r:β}(h:o.bind op=some r):∃x,o=some x/\op x=some r:=by
 cases o with
 |none=>cases h
 |some x=>exact⟨x,rfl,h⟩
theorem zt {o:Option (Option α)}{x:α}(h:o.join=some x):o=some (some x):=by
 cases o with
 |none=>cases h
 |some y=>exact congrArg some h
noncomputable def oP (K:bG)(ct:Nat->bI)(n m k:Nat)(r:R2)(op:D->D->Option D):Prop :=
 ∀(F H:Hp) (x y:V) (d1 d2 d:D) (Q:VK),cR F H->Al K ct F H n d1 x->Al K ct F H m d2 y->op d1 d2=some d->(∀v F' H',iU F H F' H'->Al K ct F' H' k d v->Q v H')->r x y H Q
noncomputable def B8 (K:bG)(ct:Nat->bI)(n m k:Nat)(r:R2)(op:D->D->Option D):Prop :=
 ∀(F H:Hp) (x y:V) (d1 d2 d:D) (Q:VK),cR F H->Al K ct F H n d1 x->Al K ct F H m d2 y->op d1 d2=some d ->
  (∀v F' H' fp,iU F H F' H'->Ow K ct F' H' k d v fp->fp.Nodup->(∀a∈fp,H a=none)->Q v H')->r x y H Q
noncomputable def wJ (K:bG)(ct:Nat->bI)(ns:List Nat)(k:Nat)(r:List V->Hp->VK->Prop)(op:List D->Option D):Prop :=
 ∀(F H:Hp) (vs:List V) (ds:List D) (d:D) (Q:VK),cR F H->mC K ct F H ns ds vs->op ds=some d->(∀v F' H',iU F H F' H'->Al K ct F' H' k d v->Q v H')->r vs H Q
noncomputable def B9 (K:bG)(ct:Nat->bI)(ns:List Nat)(k:Nat)(r:List V->Hp->VK->Prop)(op:List D->Option D):Prop :=
 ∀(F H:Hp) (vs:List V) (ds:List D) (d:D) (Q:VK),cR F H->mC K ct F H ns ds vs->op ds=some d ->
  (∀v F' H' fp,iU F H F' H'->Ow K ct F' H' k d v fp->fp.Nodup->(∀a∈fp,H a=none)->Q v H')->r vs H Q
variable {X:Cx}{a b c e:Expr}{es:List Expr}{f g h:EF}{fs:Env->Option (List D)}{m:Nat}{op:nB}{pos:mZ}{r:R2}
theorem XO.sh (he:XO X ct ms k e f):XE X ct ms n e f:=by
 obtain⟨t,p,q⟩:=he
 refine⟨t,p,λF0 B F H ρ σ d Q r e w=>q F0 B F H ρ σ d Q r e λv F' H' fp x o nd hf=>?_⟩
 obtain⟨F2,x2,h2⟩:=o.freeze x hf
 exact w v F2 H' x2 (Al.of h2)
theorem XE.ow (he:XE X ct ms 0 e f):XO X ct ms 0 e f:=by
 obtain⟨t,p,q⟩:=he
 exact⟨t,p,λF0 B F H ρ σ d Q r e w=>q F0 B F H ρ σ d Q r e λv F' H' x l=>w v F' H' [] x ⟨l,rfl⟩ cQ λa z=>(by cases z)⟩
theorem Th (i n:Nat){m:Mo}(hm:ms[i]?=some m:=by rfl)(hl:m.lv=n:=by rfl)(hN:X.N[i]?=some x:=by rfl)(hv:rY X.env.scope x:=by first|exact Or.inl rfl|exact Or.inr (Or.inl rfl)|exact Or.inr (Or.inr rfl))(hd:(x==("__debug__":Str))=false:=by decide)
  (kJ:(x==("__classdict__":Str))=false:=by decide):XE X ct ms n (.Name x pos) (eV i):=by
 subst hl
 refine⟨_,wj hN hv hd kJ,λF0 B F H ρ σ d Q r e w=>?_⟩
 obtain⟨v,hv,l⟩:=r.get hm (zt e)
 exact⟨v,hv,w v F H (.refl r.fh) l⟩
theorem Ti {i:Int}{j}:XE X ct ms n (.Constant (.int i) j pos) (eC (.int i)):=⟨_,Td,λF0 B F H ρ σ d Q r e w=>by cases e;exact w _ F H (.refl r.fh) (Al.of (.int i))⟩
theorem wp {i:Bool}{j}:XE X ct ms n (.Constant (.bool i) j pos) (eC (.bl i)):=⟨_,UD,λF0 B F H ρ σ d Q r e w=>by cases e;exact w _ F H (.refl r.fh) (Al.of (.bl i))⟩
theorem zl {i:Str}{j}:XE X ct ms n (.Constant (.str i) j pos) (eC (.str i)):=⟨_,Tf,λF0 B F H ρ σ d Q r e w=>by cases e;exact w _ F H (.refl r.fh) (Al.of (.str i))⟩
theorem Tj {j}:XE X ct ms n (.Constant .none j pos) (eC .non):=⟨_,Te,λF0 B F H ρ σ d Q r e w=>by cases e;exact w _ F H (.refl r.fh) (Al.of .non)⟩
theorem XE.bin (ha:XE X ct ms n a f)(hb:XE X ct ms m b g):∃ta tb,PE X a ta/\PE X b tb/\∀(F0 B F H:Hp) (ρ:Env) (σ:St) (d1 d2:D) (R:V->V->Hp->Prop),RS X.K ct F0 B ms F H ρ σ->f ρ=some d1->g ρ=some d2 ->
  (∀x y F' H',iU F H F' H'->Al X.K ct F' H' n d1 x->Al X.K ct F' H' m d2 y->R x y H')->ta σ H λx H1=>tb σ H1 λy H2=>R x y H2:=by
 obtain⟨ta,pa,qa⟩:=ha
 obtain⟨tb,pb,qb⟩:=hb
 refine⟨ta,tb,pa,pb,λF0 B F H ρ σ d1 d2 R r e1 e2 w=>qa F0 B F H ρ σ d1 _ r e1 λx F1 H1 x1 l1=>?_⟩
 exact qb F0 B F1 H1 ρ σ d2 _ (r.ext x1) e2 λy F2 H2 x2 l2=>w x y F2 H2 (x1.trans x2) (l1.mono x2.ff x2.hh) l2
theorem qy {o:D->D->Option D}(ho:jC X (fH op) r)(hs:oP X.K ct n m k r o)(ha:XE X ct ms n a f)(hb:XE X ct ms m b g):XE X ct ms k (.BinOp a op b pos) (e2 o f g):=by
 obtain⟨ta,tb,pa,pb,q⟩:=ha.bin hb
 refine⟨_,Ih ho pa pb,λF0 B F H ρ σ d Q rs e w=>?_⟩
 obtain⟨d1,d2,h1,h2,h3⟩:=eM e
 exact q F0 B F H ρ σ d1 d2 _ rs h1 h2 λx y F' H' x1 l1 l2=>hs F' H' x y d1 d2 d Q x1.fh l1 l2 h3 λv F2 H2 x2 l=>w v F2 H2 (x1.trans x2) l
theorem UO {o:D->D->Option D}(ho:jC X (fH op) r)(hs:B8 X.K ct n m k r o)(ha:XE X ct ms n a f)(hb:XE X ct ms m b g):XO X ct ms k (.BinOp a op b pos) (e2 o f g):=by
 obtain⟨ta,tb,pa,pb,q⟩:=ha.bin hb
 refine⟨_,Ih ho pa pb,λF0 B F H ρ σ d Q rs e w=>?_⟩
 obtain⟨d1,d2,h1,h2,h3⟩:=eM e
 exact q F0 B F H ρ σ d1 d2 _ rs h1 h2 λx y F' H' x1 l1 l2=>hs F' H' x y d1 d2 d Q x1.fh l1 l2 h3 λv F2 H2 fp x2 l nd hf=>w v F2 H2 fp (x1.trans x2) l nd λz hz=>x1.hh.free (hf z hz)
theorem qc {op:qP}{o:D->D->Option D}(ho:jC X (dZ op) r)(hs:oP X.K ct n m k r o)(ha:XE X ct ms n a f)(hb:XE X ct ms m b g)(hm:dU op b=false):XE X ct ms k (.Compare a [op] [b] pos) (e2 o f g):=by
 obtain⟨ta,tb,pa,pb,q⟩:=ha.bin hb
 refine⟨_,K0 ho pa pb hm,λF0 B F H ρ σ d Q rs e w=>?_⟩
 obtain⟨d1,d2,h1,h2,h3⟩:=eM e
 exact q F0 B F H ρ σ d1 d2 _ rs h1 h2 λx y F' H' x1 l1 l2=>hs F' H' x y d1 d2 d Q x1.fh l1 l2 h3 λv F2 H2 x2 l=>w v F2 H2 (x1.trans x2) l
theorem Ma {o:D->D->Option D}(hr:xQ X r)(hs:oP X.K ct n m k r o)(ha:XE X ct ms n a f)(hb:XE X ct ms m b g)(hp:oQ b):XE X ct ms k (.Subscript a b pos) (e2 o f g):=by
 obtain⟨ta,tb,pa,pb,q⟩:=ha.bin hb
 refine⟨_,UI hr pa pb hp,λF0 B F H ρ σ d Q rs e w=>?_⟩
 obtain⟨d1,d2,h1,h2,h3⟩:=eM e
 exact q F0 B F H ρ σ d1 d2 _ rs h1 h2 λx y F' H' x1 l1 l2=>hs F' H' x y d1 d2 d Q x1.fh l1 l2 h3 λv F2 H2 x2 l=>w v F2 H2 (x1.trans x2) l
theorem UP {op:UnaryOp}{r:V->Hp->VK->Prop}{o:D->Option D}(ho:DU X (unaryOp op) r)
  (hs:∀(F H:Hp) (x:V) (d1 d:D) (Q:VK),cR F H->Al X.K ct F H n d1 x->o d1=some d->(∀v F' H',iU F H F' H'->Al X.K ct F' H' k d v->Q v H')->r x H Q) (ha:XE X ct ms n a f):XE X ct ms k (.UnaryOp op a pos) (e1 o f):=by
 obtain⟨ta,pa,qa⟩:=ha
 refine⟨_,UF ho pa,λF0 B F H ρ σ d Q rs e w=>?_⟩
 obtain⟨d1,h1,h2⟩:=ck e
 exact qa F0 B F H ρ σ d1 _ rs h1 λx F' H' x1 l1=>hs F' H' x d1 d Q x1.fh l1 h2 λv F2 H2 x2 l=>w v F2 H2 (x1.trans x2) l
theorem ze:XA X ct ms [] [] aNil:=⟨_,ug,λρ ds e=>(by cases e;rfl),λF0 B F H ρ σ ds Q r e w=>by cases e;exact w [] F H (.refl r.fh) .nil⟩
theorem za (ha:XE X ct ms n a f)(hr:XA X ct ms es ns fs)(hs:bK (a::es) X.env=(false,cO a X.env)::bK es X.env:=by rfl):XA X ct ms (a::es) (n::ns) (aCons f fs):=by
 obtain⟨ta,pa,qa⟩:=ha
 obtain⟨tb,pb,lb,qb⟩:=hr
 refine⟨_,yw pa pb hs,λρ ds e=>(by obtain⟨x,xs,h1,h2,h3⟩:=eM e;cases h3;rw[bM,bM,lb _ _ h2]),λF0 B F H ρ σ ds Q r e w=>?_⟩
 obtain⟨x,xs,h1,h2,h3⟩:=eM e
 cases h3
 refine qa F0 B F H ρ σ x _ r h1 λv F1 H1 x1 l1=>?_
 exact qb F0 B F1 H1 ρ σ xs _ (r.ext x1) h2 λvs F2 H2 x2 l2=>w (v::vs) F2 H2 (x1.trans x2) (.cons (l1.mono x2.ff x2.hh) l2)
noncomputable def Cd (X:Cx)(ct:Nat->bI)(ms:List Mo)(k:Nat)(es:List Expr)(f:Env->Option (List D)):Prop:=∃t,PA X es t/\(∀ρ ds,f ρ=some ds->ds.length=es.length)/\∀(F0 B F H:Hp) (ρ:Env) (σ:St) (ds:List D) (Q:List V->Hp->Prop),RS X.K ct F0 B ms F H ρ σ->f ρ=some ds ->
 (∀vs F' H' fp,iU F H F' H'->ie (Ow X.K ct F' H' k) ds vs fp->fp.Nodup->(∀a∈fp,H a=none)->Q vs H')->t σ H Q
theorem zn:Cd X ct ms k [] aNil:=⟨_,ug,λρ ds e=>(by cases e;rfl),λF0 B F H ρ σ ds Q r e w=>by cases e;exact w [] F H [] (.refl r.fh) .nil cQ λa z=>(by cases z)⟩
theorem zh (ha:XO X ct ms k a f)(hr:Cd X ct ms k es fs)(hs:bK (a::es) X.env=(false,cO a X.env)::bK es X.env:=by rfl):Cd X ct ms k (a::es) (aCons f fs):=by
 obtain⟨ta,pa,qa⟩:=ha
 obtain⟨tb,pb,lb,qb⟩:=hr
 refine⟨_,yw pa pb hs,λρ ds e=>(by obtain⟨x,xs,h1,h2,h3⟩:=eM e;cases h3;rw[bM,bM,lb _ _ h2]),λF0 B F H ρ σ ds Q r e w=>?_⟩
 obtain⟨x,xs,h1,h2,h3⟩:=eM e
 cases h3
 refine qa F0 B F H ρ σ x _ r h1 λv F1 H1 f1 x1 l1 n1 a1=>?_
 refine qb F0 B F1 H1 ρ σ xs _ (r.ext x1) h2 λvs F2 H2 f2 x2 l2 n2 a2=>w (v::vs) F2 H2 (f1++f2) (x1.trans x2) (.cons (l1.ext x2) l2) (cI.mpr ⟨n1,n2,λz hz y hy e=>?_⟩) λz hz=>?_
 ·subst e
  obtain⟨_,o,ho,_⟩:=l1.cells z hz
  rw[a2 z hy]at ho
  cases ho
 ·rcases cL.mp hz with hz|hz
  ·exact a1 z hz
  ·exact x1.hh.free (a2 z hz)
noncomputable def Ce:D->Option Bool
 |.bl b=>some b
 |_=>none
theorem vi {b:Bool}(h:Ce d=some b):d=.bl b:=by cases d<;>simp[Ce]at h;subst h;rfl
noncomputable abbrev BF:=Env->Option Bool
noncomputable def tb (f:EF):BF:=λρ=>(f ρ).bind Ce
noncomputable def bNot (f:BF):BF:=λρ=>(f ρ).bind λb=>some (!b)
noncomputable def bAnd (f g:BF):BF:=λρ=>(f ρ).bind λb=>if b=true then g ρ else some false
noncomputable def bOr (f g:BF):BF:=λρ=>(f ρ).bind λb=>if b=true then some true else g ρ
noncomputable def eB (f:BF):EF:=λρ=>(f ρ).bind λb=>some (.bl b)
noncomputable def eIf (c:BF)(f g:EF):EF:=λρ=>(c ρ).bind λb=>if b=true then f ρ else g ρ
variable {fT pp:mZ}{c0 kk rk:Nat}{cs nd pm:List Nat}{mh:List D}{se:List bC}{kF:List V}{fa:bI}{mf:List D->Option D}{o:Expr}{p q:BF}{pl:yJ Bool}{ps:List Str}
section
theorem y0 (he:XE X ct ms n e f)(hi:∀whole,vW e X.env whole=(do let v ← whole;jO e.pos;gh [v] (truthy v)):=by intro _;rfl):XT X ct ms e (tb f):=by
 obtain⟨t,pt,qt⟩:=he
 refine⟨_,Sx pt hi,λF0 B F H ρ σ b Q r e w=>?_⟩
 obtain⟨d,h1,h2⟩:=ck e
 rw[vi h2]at h1
 exact qt F0 B F H ρ σ _ _ r h1 λv F' H' x l=>⟨b,l.bl,w F' H' x⟩
theorem ji {op:qP}{o:D->D->Option D}(ho:jC X (dZ op) r)(hs:oP X.K ct n m k r o)(ha:XE X ct ms n a f)(hb:XE X ct ms m b g)(hm:dU op b=false):XT X ct ms (.Compare a [op] [b] pos) (tb (e2 o f g)):=by
 obtain⟨ta,tb,pa,pb,q⟩:=ha.bin hb
 refine⟨_,K1 ho pa pb hm,λF0 B F H ρ σ b Q rs e w=>?_⟩
 obtain⟨d,h0,h4⟩:=ck e
 rw[vi h4]at h0
 obtain⟨d1,d2,h1,h2,h3⟩:=eM h0
 exact q F0 B F H ρ σ d1 d2 _ rs h1 h2 λx y F' H' x1 l1 l2=>hs F' H' x y d1 d2 _ _ x1.fh l1 l2 h3 λv F2 H2 x2 l=>⟨b,l.bl,w F2 H2 (x1.trans x2)⟩
theorem XW.t (h:XW X ct ms e p):XT X ct ms e p:=by
 obtain⟨t,pt,qt⟩:=h
 exact⟨t,pt.pt,qt⟩
theorem EJ (ha:XT X ct ms a p):XW X ct ms (.BoolOp .And [a] pos) p:=by
 obtain⟨t,pt,qt⟩:=ha
 exact⟨t,KQ pt,qt⟩
theorem w6 (ha:XT X ct ms a p):XW X ct ms (.BoolOp .Or [a] pos) p:=by
 obtain⟨t,pt,qt⟩:=ha
 exact⟨t,Ls pt,qt⟩
theorem E5 {rest:List Expr}(ha:XT X ct ms a p)(hb:XW X ct ms (.BoolOp .And (b::rest) pos) q):XW X ct ms (.BoolOp .And (a::b::rest) pos) (bAnd p q):=by
 obtain⟨t,pt,qt⟩:=ha
 obtain⟨u,pu,qu⟩:=hb
 refine⟨_,Lu pt pu,λF0 B F H ρ σ r Q rs e w=>?_⟩
 obtain⟨x,h1,h2⟩:=ck e
 refine qt F0 B F H ρ σ x _ rs h1 λF1 H1 x1=>?_
 cases x with
 |true=>rw[if_pos rfl];exact qu F0 B F1 H1 ρ σ r _ (rs.ext x1) h2 λF2 H2 x2=>w F2 H2 (x1.trans x2)
 |false=>cases h2;rw[if_neg bV];exact w F1 H1 x1
theorem uj {rest:List Expr}(ha:XT X ct ms a p)(hb:XW X ct ms (.BoolOp .Or (b::rest) pos) q):XW X ct ms (.BoolOp .Or (a::b::rest) pos) (bOr p q):=by
 obtain⟨t,pt,qt⟩:=ha
 obtain⟨u,pu,qu⟩:=hb
 refine⟨_,L8 pt pu,λF0 B F H ρ σ r Q rs e w=>?_⟩
 obtain⟨x,h1,h2⟩:=ck e
 refine qt F0 B F H ρ σ x _ rs h1 λF1 H1 x1=>?_
 cases x with
 |true=>cases h2;rw[if_pos rfl];exact w F1 H1 x1
 |false=>rw[if_neg bV];exact qu F0 B F1 H1 ρ σ r _ (rs.ext x1) h2 λF2 H2 x2=>w F2 H2 (x1.trans x2)
theorem wk (ha:XT X ct ms a p):XT X ct ms (.UnaryOp .Not a pos) (bNot p):=by
 obtain⟨t,pt,qt⟩:=ha
 refine⟨_,Sy pt,λF0 B F H ρ σ r Q rs e w=>?_⟩
 obtain⟨x,h1,h2⟩:=ck e
 cases h2
 exact qt F0 B F H ρ σ x _ rs h1 λF1 H1 x1=>w F1 H1 x1
theorem wy {op}(ha:XE X ct ms n a f):XE X ct ms k (.BoolOp op [a] pos) (eB (tb f)):=by
 obtain⟨t,pt,qt⟩:=ha
 refine⟨_,SA pt,λF0 B F H ρ σ r Q rs e w=>?_⟩
 obtain⟨y,h3,h4⟩:=ck e
 obtain⟨z,h5,h6⟩:=ck h3
 cases h4
 rw[vi h6]at h5
 exact qt F0 B F H ρ σ _ _ rs h5 λv F1 H1 x1 l=>w _ F1 H1 x1 (by rw[l.bl];exact Al.of (.bl _))
theorem w8 {rest:List Expr}(ha:XE X ct ms n a f)(hb:XE X ct ms k (.BoolOp .And (b::rest) pos) (eB q)):XE X ct ms k (.BoolOp .And (a::b::rest) pos) (eB (bAnd (tb f) q)):=by
 obtain⟨t,pt,qt⟩:=ha
 obtain⟨u,pu,qu⟩:=hb
 refine⟨_,SC pt pu,λF0 B F H ρ σ r Q rs e w=>?_⟩
 obtain⟨y,h3,h4⟩:=ck e
 obtain⟨x,h1,h2⟩:=ck h3
 obtain⟨z,h5,h6⟩:=ck h1
 cases h4
 rw[vi h6]at h5
 refine qt F0 B F H ρ σ _ _ rs h5 λv F1 H1 x1 l=>⟨x,l.bl,?_⟩
 cases x with
 |true=>rw[if_pos rfl];exact qu F0 B F1 H1 ρ σ _ _ (rs.ext x1) (show(q ρ).bind _=_ by rw[if_pos rfl]at h2;rw[h2];rfl) λv F2 H2 x2 l=>w v F2 H2 (x1.trans x2) l
 |false=>rw[if_neg bV]at h2 ⊢;cases h2;exact w _ F1 H1 x1 (Al.of (.bl _))
theorem Ig {rest:List Expr}(ha:XE X ct ms n a f)(hb:XE X ct ms k (.BoolOp .Or (b::rest) pos) (eB q)):XE X ct ms k (.BoolOp .Or (a::b::rest) pos) (eB (bOr (tb f) q)):=by
 obtain⟨t,pt,qt⟩:=ha
 obtain⟨u,pu,qu⟩:=hb
 refine⟨_,UE pt pu,λF0 B F H ρ σ r Q rs e w=>?_⟩
 obtain⟨y,h3,h4⟩:=ck e
 obtain⟨x,h1,h2⟩:=ck h3
 obtain⟨z,h5,h6⟩:=ck h1
 cases h4
 rw[vi h6]at h5
 refine qt F0 B F H ρ σ _ _ rs h5 λv F1 H1 x1 l=>⟨x,l.bl,?_⟩
 cases x with
 |true=>rw[if_pos rfl]at h2 ⊢;cases h2;exact w _ F1 H1 x1 (Al.of (.bl _))
 |false=>rw[if_neg bV];exact qu F0 B F1 H1 ρ σ _ _ (rs.ext x1) (show(q ρ).bind _=_ by rw[if_neg bV]at h2;rw[h2];rfl) λv F2 H2 x2 l=>w v F2 H2 (x1.trans x2) l
theorem Fa (hc:XT X ct ms c p)(ha:XE X ct ms k a f)(hb:XE X ct ms k b g):XE X ct ms k (.IfExp c a b pos) (eIf p f g):=by
 obtain⟨s,ps,qs⟩:=hc
 obtain⟨t,pt,qt⟩:=ha
 obtain⟨u,pu,qu⟩:=hb
 refine⟨_,Qt ps pt pu,λF0 B F H ρ σ r Q rs e w=>?_⟩
 obtain⟨x,h1,h2⟩:=ck e
 refine qs F0 B F H ρ σ x _ rs h1 λF1 H1 x1=>?_
 cases x with
 |true=>rw[if_pos rfl]at h2 ⊢;exact qt F0 B F1 H1 ρ σ _ _ (rs.ext x1) h2 λv F2 H2 x2 l=>w v F2 H2 (x1.trans x2) l
 |false=>rw[if_neg bV]at h2 ⊢;exact qu F0 B F1 H1 ρ σ _ _ (rs.ext x1) h2 λv F2 H2 x2 l=>w v F2 H2 (x1.trans x2) l
theorem vv {x1}(h:Cd X ct ms k es fs)(hl:es.length<=1000:=by decide):XO X ct ms (k+1) (.Tuple es x1 pos) (λρ=>(fs ρ).bind λds=>some (.tup ds)):=by
 obtain⟨t,pt,lt,qt⟩:=h
 refine⟨_,TB pt,λF0 B F H ρ σ r Q rs e w=>?_⟩
 obtain⟨ds,h1,h2⟩:=ck e
 cases h2
 refine qt F0 B F H ρ σ ds _ rs h1 λvs F1 H1 fp x1 l nd hf=>⟨?_,λp hp=>?_⟩
 ·rw[←l.length,lt _ _ h1];exact small hl
 ·have x2:=iU.newS x1.fh hp (.tup vs)
  exact w _ _ _ fp (x1.trans x2) (.inr (.tup zw (l.mono λ_ _ _ _ o=>o.ext x2))) nd hf
theorem ie.cellsOf {vs:List V}(l:ie (Ow K ct F H k) ds vs fp):∀a∈fp,F a=none/\∃o,H a=some o/\lB o:=ie.cells0 (λd v f q=>Ow.cells q) l
theorem KW {vs:List V}{p:bI}(s:cR F H)(l:ie (Ow K ct F H k) ds vs fp)(hp:H p=none):Ow K ct F (fM H p (.lst vs)) (k+1) (.lst ds) (.ref p) (p::fp)/\(fp.Nodup->(p::fp).Nodup) :=
 ⟨.inr (.lst (s.free hp) zw (l.mono λ_ _ _ _ o=>o.ext (iU.newO s hp _))),λnd=>cX.mpr ⟨λz=>(by
  obtain⟨_,o,ho,_⟩:=ie.cellsOf l p z
  rw[hp]at ho
  cases ho),nd⟩⟩
theorem yb (h:Cd X ct ms k es fs)(hl:es.length<=1000:=by decide):XO X ct ms (k+1) (.List es pos) (λρ=>(fs ρ).bind λds=>some (.lst ds)):=by
 obtain⟨t,pt,lt,qt⟩:=h
 refine⟨_,TC pt,λF0 B F H ρ σ r Q rs e w=>?_⟩
 obtain⟨ds,h1,h2⟩:=ck e
 cases h2
 refine qt F0 B F H ρ σ ds _ rs h1 λvs F1 H1 fp x1 l nd hf=>⟨?_,λp hp=>?_⟩
 ·rw[←l.length,lt _ _ h1];exact small hl
 ·obtain⟨o,n2⟩:=KW x1.fh l hp
  refine w _ _ _ (p::fp) (x1.trans (iU.newO x1.fh hp _)) o (n2 nd) λz hz=>?_
  rcases bL.mp hz with rfl|hz
  ·exact x1.hh.free hp
  ·exact hf z hz
theorem Qk:XO X ct ms (k+1) (.Dict [] [] pos) (eC (.dK [] [])):=by
 refine⟨_,QD,λF0 B F H ρ σ r Q rs e w p hp=>?_⟩
 cases e
 refine w _ F _ [p] (iU.newO rs.fh hp _) (.inr (xR.dK (vs:=[]) (rs.fh.free hp) zw rfl .nil)) (by simp) λz hz=>?_
 rw[cj]at hz;subst hz;exact hp
noncomputable def jB (K:bG)(ct:Nat->bI)(pm:List Nat)(rk:Nat)(m:List D->Option D):Sp:=λvs H Q _=>∃(F:Hp) (ds:List D) (d:D),cR F H/\mC K ct F H pm ds vs/\m ds=some d /\
 ∀v F' H' fp,iU F H F' H'->Ow K ct F' H' rk d v fp->fp.Nodup->(∀a∈fp,H a=none)->Q v H'
theorem jB.len {m:List D->Option D}(h:pm.length=ps.length):∀vs H Q E,jB K ct pm rk m vs H Q E->vs.length=ps.length:=by
 rintro vs H Q E ⟨F,ds,d,_,l,_⟩
 rw[l.length,h]
variable {fd:bW}
theorem Rm (Fn:dm X.prog X.w X.K X.mg X.base fK kk fa fd ps (jB X.K ct (ns++nd) rk mf))(hr:eG kk X.A)(hg:Gl X x)(hm:X.mg x=some (.ref fa))(hk:ei X.K (.ref fa)=true)
  (hb:fO X.K fd ps se) (hd:c8 kF se) (AU:∀F G,mC X.K ct F G nd mh kF) (ha:XA X ct ms (e::es) ns fs)
  (lV:(x==("__debug__":Str))=false:=by decide) (he:bK (e::es) X.env=(false,cO e X.env)::bK es X.env:=by rfl) (jM:(dq pos (bK es X.env)).any (·.1)=false:=by rfl) :
  XO X ct ms rk (.Call (.Name x pp) (e::es) [] pos) (λρ=>(fs ρ).bind λds=>mf (ds++mh)):=by
 obtain⟨t,pt,_,qt⟩:=ha
 refine⟨_,K2 Fn hr hg hm hk hb hd nc pt lV he jM,λF0 B F H ρ σ r Q rs e w=>?_⟩
 obtain⟨ds,h1,h2⟩:=ck e
 refine qt F0 B F H ρ σ ds _ rs h1 λvs F1 H1 x1 l=>⟨F1,ds++mh,r,x1.fh,mC.append (AU F1 H1) l,h2,λv F2 H2 fp x2 o nd hf=>?_⟩
 exact w v F2 H2 fp (x1.trans x2) o nd λz hz=>x1.hh.free (hf z hz)
theorem yx {id:String}{r:List V->Hp->VK->Prop}{op:List D->Option D}(hc:gB X (.builtin id) r)(hs:wJ X.K ct ns k r op)(hg:Gl X x)(hm:X.mg x=none)(hv:dr x=some (.builtin id))(ha:XA X ct ms (e::es) ns fs)
  (hn:x≠"__name__":=by decide) (lV:(x==("__debug__":Str))=false:=by decide) (he:bK (e::es) X.env=(false,cO e X.env)::bK es X.env:=by rfl) (jM:(dq pos (bK es X.env)).any (·.1)=false:=by rfl) :
  XE X ct ms k (.Call (.Name x pp) (e::es) [] pos) (eN op fs):=by
 obtain⟨t,pt,_,qt⟩:=ha
 refine⟨_,Hk hc hg hm hv pt hn lV he jM,λF0 B F H ρ σ r Q rs e w=>?_⟩
 obtain⟨ds,h1,h2⟩:=ck e
 exact qt F0 B F H ρ σ ds _ rs h1 λvs F1 H1 x1 l=>hs F1 H1 vs ds r Q x1.fh l h2 λv F2 H2 x2 l2=>w v F2 H2 (x1.trans x2) l2
theorem zo {id:String}{r:List V->Hp->VK->Prop}{op:List D->Option D}(hc:gB X (.type id) r)(hs:wJ X.K ct ns k r op)(hg:Gl X x)(hm:X.mg x=none)(hv:dr x=some (.type id))(ha:XA X ct ms (e::es) ns fs)
  (hn:x≠"__name__":=by decide) (lV:(x==("__debug__":Str))=false:=by decide) (he:bK (e::es) X.env=(false,cO e X.env)::bK es X.env:=by rfl) (jM:(dq pos (bK es X.env)).any (·.1)=false:=by rfl) :
  XE X ct ms k (.Call (.Name x pp) (e::es) [] pos) (eN op fs):=by
 obtain⟨t,pt,_,qt⟩:=ha
 refine⟨_,J0 hc hg hm hv pt hn lV he jM,λF0 B F H ρ σ r Q rs e w=>?_⟩
 obtain⟨ds,h1,h2⟩:=ck e
 exact qt F0 B F H ρ σ ds _ rs h1 λvs F1 H1 x1 l=>hs F1 H1 vs ds r Q x1.fh l h2 λv F2 H2 x2 l2=>w v F2 H2 (x1.trans x2) l2
theorem qd {id:String}{r:List V->Hp->VK->Prop}{op:List D->Option D}(hc:gB X (.type id) r)(hs:B9 X.K ct ns k r op)(hg:Gl X x)(hm:X.mg x=none)(hv:dr x=some (.type id))(ha:XA X ct ms (e::es) ns fs)
  (hn:x≠"__name__":=by decide) (lV:(x==("__debug__":Str))=false:=by decide) (he:bK (e::es) X.env=(false,cO e X.env)::bK es X.env:=by rfl) (jM:(dq pos (bK es X.env)).any (·.1)=false:=by rfl) :
  XO X ct ms k (.Call (.Name x pp) (e::es) [] pos) (eN op fs):=by
 obtain⟨t,pt,_,qt⟩:=ha
 refine⟨_,J0 hc hg hm hv pt hn lV he jM,λF0 B F H ρ σ r Q rs e w=>?_⟩
 obtain⟨ds,h1,h2⟩:=ck e
 exact qt F0 B F H ρ σ ds _ rs h1 λvs F1 H1 x1 l=>hs F1 H1 vs ds r Q x1.fh l h2 λv F2 H2 fp x2 l2 nd hf=>w v F2 H2 fp (x1.trans x2) l2 nd λz hz=>x1.hh.free (hf z hz)
theorem PE.or {t u:TE}(h1:PE X e t)(h2:PE X e u):PE X e (λσ H Q=>t σ H Q\/u σ H Q):=λbH s σ H Q I h=>h.elim (h1 bH s σ H Q I) (h2 bH s σ H Q I)
theorem vt (ha:XO X ct ms k e f)(hb:XO X ct ms k e g):XO X ct ms k e (λρ=>(f ρ).or (g ρ)):=by
 obtain⟨t,pt,qt⟩:=ha
 obtain⟨u,pu,qu⟩:=hb
 refine⟨_,PE.or pt pu,λF0 B F H ρ σ r Q rs e w=>?_⟩
 dsimp only at e ⊢
 cases h:f ρ with
 |some d=>
  rw[h]at e
  cases e
  exact .inl (qt F0 B F H ρ σ _ Q rs h w)
 |none=>
  rw[h]at e
  exact .inr (qu F0 B F H ρ σ r Q rs e w)
noncomputable def dc (cs:List Nat)(x:Str):D->Option D
 |.obj c ns ds=>if cs.contains c=true then(ns.zip ds).lookup x else none
 |_=>none
theorem u6 {R:D->V->Prop}{x:Str}{d:D}:∀{ns:List Str} {ds:List D} {vs:List V},Pr R ds vs->(ns.zip ds).lookup x=some d->∃v,(ns.zip vs).lookup x=some v/\R d v
 |[],_,_,_,e=>by simp at e
 |_::_,_,_,.nil,e=>by simp at e
 |y::ns,_,_,.cons h t,e=>by
  rw[e9,cq]at e
  rw[e9,cq]
  cases q:x==y with
  |true=>rw[q]at e;cases e;exact⟨_,rfl,h⟩
  |false=>rw[q]at e;exact u6 t e
theorem jt {vs:List V}{x:Str}:∀{ns:List Str} {vs:List V},ns.contains x=false->(ns.zip vs).lookup x=none
 |[],_,_=>by simp
 |_::_,[],_=>by simp
 |y::ns,_::vs,h=>by
  rw[mY,sU]at h
  rw[e9,cq,h.1]
  exact jt (vs:=vs) h.2
theorem LL (he:XE X ct ms n e f)(hc:∀c∈cs,ma X.K (ct c)/\eR X.K (ct c) x)(hb:fB e x X.env (cO e X.env)=cO e X.env):XE X ct ms (n-1) (.Attribute e x pos) (e1 (dc cs x) f):=by
 obtain⟨t,pt,qt⟩:=he
 refine⟨_,Tx pt hb,λF0 B F H ρ σ r Q rs e w=>?_⟩
 obtain⟨o,h1,h2⟩:=ck e
 refine qt F0 B F H ρ σ o _ rs h1 λv F1 H1 x1 l=>?_
 cases o with
 |obj c ns ds=>
  obtain⟨a,dx,vs,rfl,ha,hl,FP⟩:=l.obj x1.fh
  unfold dc at h2
  dsimp only at h2
  by_cases wU:cs.contains c=true
  ·rw[if_pos wU]at h2
   obtain⟨u,hu,du⟩:=u6 FP h2
   have hh:=hc c (by simpa using wU)
   exact⟨a,_,dx,_,u,rfl,ha,hh.1,hh.2,hu,w u F1 H1 x1 du⟩
  ·rw[if_neg wU]at h2;cases h2
 |_=>cases h2
noncomputable def gA (c0:Nat)(m:Str)(mf:List D->Option D)(o:D)(ds:List D):Option D:=match o with
 |.obj c ns _=>if c=c0/\ns.contains m=false then mf (o::ds)else none
 |_=>none
theorem yi (ho:XE X ct ms n o f)(c:ma X.K (ct c0))(hm:nH X.K (ct c0) x fa)(Fn:dm X.prog X.w X.K X.mg X.base fK kk fa fd ps (jB X.K ct (n::(ns++nd)) rk mf))(hr:eG kk X.A)
  (hb:fO X.K fd ps se) (hd:c8 kF se) (AU:∀F G,mC X.K ct F G nd mh kF) (ha:XA X ct ms (e::es) ns fs)
  (mj:bK (e::es) X.env=(false,cO e X.env)::bK es X.env:=by rfl) (jM:(dq pos (bK es X.env)).any (·.1)=false:=by rfl)
  (ht:cO (.Call (.Attribute o x fT) (e::es) [] pos) X.env=(do
   let ov ← cO o X.env
   jO fT.atName
   let(f,first) ← gh [ov] (iK ov x pl)
   jY pos f first (dq pos (bK (e::es) X.env)) (gk pos (ek [] X.env))):=by rfl) :
  XO X ct ms rk (.Call (.Attribute o x fT) (e::es) [] pos) (λρ=>(f ρ).bind λo=>(fs ρ).bind λds=>gA c0 x mf o (ds++mh)):=by
 obtain⟨u,pu,qu⟩:=ho
 obtain⟨t,pt,_,qt⟩:=ha
 refine⟨_,K3 pu c hm Fn hr hb hd nc pt mj jM ht,λF0 B F H ρ σ r Q rs e w=>?_⟩
 obtain⟨o,ds,h1,h2,h3⟩:=eM e
 refine qu F0 B F H ρ σ o _ rs h1 λv F1 H1 x1 l=>?_
 cases o with
 |obj c1 Em sR=>
  unfold gA at h3
  dsimp only at h3
  split at h3
  ·rename_i hc
   obtain⟨rfl,vY⟩:=hc
   obtain⟨a,dx,vs,rfl,ha,hl,FP⟩:=l.obj x1.fh
   refine⟨a,dx,_,rfl,ha,jt (vs:=vs) vY,?_⟩
   refine qt F0 B F1 H1 ρ σ ds _ (rs.ext x1) h2 λus F2 H2 x2 l2=>⟨F2,_,r,x2.fh,.cons (l.mono x2.ff x2.hh) (mC.append (AU F2 H2) l2),h3,λv F3 H3 fp x3 o nd hf=>?_⟩
   exact w v F3 H3 fp ((x1.trans x2).trans x3) o nd λz hz=>(x1.trans x2).hh.free (hf z hz)
  ·cases h3
 |_=>cases h3
theorem Hf (ho:XE X ct ms n o f)(c:ma X.K (ct c0))(hm:nH X.K (ct c0) x fa)(Fn:dm X.prog X.w X.K X.mg X.base fK kk fa fd ps (jB X.K ct (n::nd) rk mf))(hr:eG kk X.A)
  (hb:fO X.K fd ps se) (hd:c8 kF se) (AU:∀F G,mC X.K ct F G nd mh kF)
  (ht:cO (.Call (.Attribute o x fT) [] [] pos) X.env=(do
   let ov ← cO o X.env
   jO fT.atName
   let(f,first) ← gh [ov] (iK ov x pl)
   jY pos f first (dq pos (bK [] X.env)) (gk pos (ek [] X.env))):=by rfl) :
  XO X ct ms rk (.Call (.Attribute o x fT) [] [] pos) (λρ=>(f ρ).bind λo=>gA c0 x mf o mh):=by
 obtain⟨u,pu,qu⟩:=ho
 refine⟨_,Qz pu c hm Fn hr hb hd nc ht,λF0 B F H ρ σ r Q rs e w=>?_⟩
 obtain⟨o,h1,h3⟩:=ck e
 refine qu F0 B F H ρ σ o _ rs h1 λv F1 H1 x1 l=>?_
 cases o with
 |obj c1 Em sR=>
  unfold gA at h3
  dsimp only at h3
  split at h3
  ·rename_i hc
   obtain⟨rfl,vY⟩:=hc
   obtain⟨a,dx,vs,rfl,ha,hl,FP⟩:=l.obj x1.fh
   refine⟨a,dx,_,rfl,ha,jt (vs:=vs) vY,F1,_,r,x1.fh,.cons l (AU F1 H1),h3,λv F3 H3 fp x3 o nd hf=>?_⟩
   exact w v F3 H3 fp (x1.trans x3) o nd λz hz=>x1.hh.free (hf z hz)
  ·cases h3
 |_=>cases h3
end
inductive Out where
 |nx (ρ:Env)|rt (d:D)|bk (ρ:Env)|ct (ρ:Env)
noncomputable abbrev SF:=Env->Option Out
noncomputable def n8 (K:bG)(cl:Nat->bI)(F0 B:Hp)(ms:List Mo)(rk:Nat)(E:nG):Out->Prop
 |.nx ρ=>∀σ F H,RS K cl F0 B ms F H ρ σ->E.nx σ H
 |.bk ρ=>∀σ F H,RS K cl F0 B ms F H ρ σ->E.bk σ H
 |.ct ρ=>∀σ F H,RS K cl F0 B ms F H ρ σ->E.ct σ H
 |.rt d=>∀v F H fp,cR F0 F->cR B H->cR F H->(∀a o,B a=some o->lB o->F0 a=none->F a=none)->Ow K cl F H rk d v fp->fp.Nodup->(∀a∈fp,B a=none)->E.rt v H
section
variable (X:Cx)(ct:Nat->bI)(ms:List Mo)(rk:Nat)
noncomputable def XS (st:dH)(f:SF):Prop:=∃t,PS X st t/\∀(F0 B F H:Hp) (ρ:Env) (σ:St) (o:Out) (E:nG),RS X.K ct F0 B ms F H ρ σ->f ρ=some o->n8 X.K ct F0 B ms rk E o->t E σ H
noncomputable def rF (st:List dH)(f:SF):Prop:=∃t,tD X st t/\∀(F0 B F H:Hp) (ρ:Env) (σ:St) (o:Out) (E:nG),RS X.K ct F0 B ms F H ρ σ->f ρ=some o->n8 X.K ct F0 B ms rk E o->t E σ H
end
noncomputable def sSkip:SF:=λρ=>some (.nx ρ)
noncomputable def sSeq (f g:SF):SF:=λρ=>(f ρ).bind λo=>match o with
 |.nx ρ'=>g ρ'
 |o=>some o
noncomputable def sIf (c:BF)(f g:SF):SF:=λρ=>(c ρ).bind λb=>if b=true then f ρ else g ρ
noncomputable def sSet (i:Nat)(f:EF):SF:=λρ=>(f ρ).bind λd=>some (.nx (ρ.set i (some d)))
noncomputable def sRet (f:EF):SF:=λρ=>(f ρ).bind λd=>some (.rt d)
noncomputable def sRetN:SF:=λ_=>some (.rt .non)
noncomputable def sDrop (f:EF):SF:=λρ=>(f ρ).bind λ_=>some (.nx ρ)
noncomputable def sNever:SF:=λ_=>none
noncomputable def tf:Nat:=2 ^ 9000
noncomputable def nO (c:BF)(b:SF):Nat->SF
 |0,_=>none
 |n+1,ρ=>(c ρ).bind λt=>if t=true then(b ρ).bind λo=>match o with
   |.nx ρ'=>nO c b n ρ'
   |.ct ρ'=>nO c b n ρ'
   |.bk ρ'=>some (.nx ρ')
   |.rt d=>some (.rt d)
  else some (.nx ρ)
noncomputable def rl (c:BF)(b:SF):SF:=nO c b tf
noncomputable def lU (g:D->Env->Option Env)(b:SF):List D->SF
 |[],ρ=>some (.nx ρ)
 |d::ds,ρ=>(g d ρ).bind λρ1=>(b ρ1).bind λo=>match o with
   |.nx ρ'=>lU g b ds ρ'
   |.ct ρ'=>lU g b ds ρ'
   |.bk ρ'=>some (.nx ρ')
   |.rt d=>some (.rt d)
noncomputable def sFor (f:Env->Option (List D))(g:D->Env->Option Env)(b:SF):SF:=λρ=>(f ρ).bind λds=>lU g b ds ρ
variable {N:List Str}{P:dA}{base:bU}{bf u w:SF}{fi:Env->Option (List D)}{gg:D->Env->Option Env}{gs:List D->Env->Option Env}{iter tg:Expr}{j:Nat}{mg:Str->Option bC}{pos':mZ}{qual:Str}{rest:List dH}{st:dH}{oi:List Expr}{ρ':Env}
theorem wq:rF X ct ms rk [] sSkip:=⟨_,Rg,λF0 B F H ρ σ o E rs e w=>by cases e;exact w σ F H rs⟩
theorem zc (h1:XS X ct ms rk st u)(h2:rF X ct ms rk rest w):rF X ct ms rk (st::rest) (sSeq u w):=by
 obtain⟨t,pt,qt⟩:=h1
 obtain⟨t2,nh,pY⟩:=h2
 refine⟨_,Kr pt nh,λF0 B F H ρ σ o E rs e z=>?_⟩
 obtain⟨o1,e1,e2⟩:=ck e
 refine qt F0 B F H ρ σ o1 _ rs e1 ?_
 cases o1 with
 |nx ρ'=>exactλσ' F' H' GR=>pY F0 B F' H' ρ' σ' o E GR e2 z
 |rt d=>cases e2;exact z
 |bk ρ'=>cases e2;exact z
 |ct ρ'=>cases e2;exact z
theorem zj (h1:XS X ct ms rk st u):rF X ct ms rk [st] u:=by
 obtain⟨t,pt,qt⟩:=h1
 exact⟨_,HC pt,qt⟩
theorem vk:XS X ct ms rk st sNever:=⟨_,Qu,λF0 B F H ρ σ o E rs e w=>by cases e⟩
theorem Rn (he:XE X ct ms n e f)(hs:eI e none pos.line X.env=pure false:=by rfl):XS X ct ms rk (.Expr e pos) (sDrop f):=by
 obtain⟨t,pt,qt⟩:=he
 refine⟨_,HE pt hs,λF0 B F H ρ σ o E rs e w=>?_⟩
 obtain⟨d,h1,h2⟩:=ck e
 cases h2
 exact qt F0 B F H ρ σ d _ rs h1 λv F' H' x l=>w σ F' H' (rs.ext x)
theorem ym (he:XO X ct ms rk e f):XS X ct ms rk (.Return (some e) pos) (sRet f):=by
 obtain⟨t,pt,qt⟩:=he
 refine⟨_,DD pt,λF0 B F H ρ σ o E rs e w=>?_⟩
 obtain⟨d,h1,h2⟩:=ck e
 cases h2
 refine qt F0 B F H ρ σ d _ rs h1 λv F' H' fp x l nd hf=>?_
 have r:=rs.ext x
 exact w v F' H' fp r.f0 r.bh r.fh r.nf l nd λz hz=>rs.bh.free (hf z hz)
theorem By {Dr yC:List dH}(hc:XT X ct ms c p)(h1:rF X ct ms rk Dr u)(h2:rF X ct ms rk yC w):XS X ct ms rk (.If c Dr yC pos) (sIf p u w):=by
 obtain⟨t,pt,qt⟩:=hc
 obtain⟨t1,vE,vF⟩:=h1
 obtain⟨t2,nh,pY⟩:=h2
 refine⟨_,L9 pt vE nh,λF0 B F H ρ σ o E rs e z=>?_⟩
 obtain⟨x,h1,h2⟩:=ck e
 refine qt F0 B F H ρ σ x _ rs h1 λF1 H1 x1=>?_
 cases x with
 |true=>rw[if_pos rfl]at h2 ⊢;exact vF F0 B F1 H1 ρ σ o E (rs.ext x1) h2 z
 |false=>rw[if_neg bV]at h2 ⊢;exact pY F0 B F1 H1 ρ σ o E (rs.ext x1) h2 z
theorem RS.put {F' H':Hp}(rs:RS K ct F0 B ms F H ρ σ)(hm:ms[i]?=some (.ow k)) :
  ∃f1 fr:List bI,f1.Nodup/\(∀a∈f1,B a=none)/\(∀a∈f1,a∉fr)/\(∀d,ρ[i]?=some (some d)->∃v,σ[i]?=some (some v)/\Ow K ct F H k d v f1)/\(∀a∈fr,F a=none/\∃o,H a=some o/\lB o) /\
   ∀(F' H':Hp) (d':D) (v':V) (f':List bI),cR F F'->cR B H'->cR F' H'->(∀a o,B a=some o->lB o->F0 a=none->F' a=none)->(∀a∈fr,H' a=H a/\F' a=none)->Ow K ct F' H' k d' v' f'->f'.Nodup->(∀a∈f',a∉fr)->(∀a∈f',B a=none) ->
    RS K ct F0 B ms F' H' (ρ.set i (some d')) (σ.set i (some v')):=by
 obtain⟨fp,sl,nd,hb⟩:=rs.sl
 obtain⟨f1,fr,i1,i2,i3,i4,i5⟩:=sl.put hm
 obtain⟨n1,n2,n3⟩:=i3 nd
 refine⟨f1,fr,n1,λa z=>hb a (i1 a z),n3,i4,λa z=>sl.cells a (i2 a z),λF' H' d' v' f' s1 s2 s3 s4 kf o NV dj Nl=>?_⟩
 obtain⟨ke,q1,q2,q3⟩:=i5 F' H' d' v' f' s1 kf o
 exact⟨rs.f0.trans s1,s2,s3,s4,ke,q1,q3 NV n2 dj,λa z=>(q2 a z).elim (Nl a) λz=>hb a (i2 a z)⟩
theorem RS.set {v:V}(rs:RS K ct F0 B ms F H ρ σ)(hm:ms[i]?=some (.ow k))(x:iU F H F' H')(o:Ow K ct F' H' k d v fp)(nd:fp.Nodup)(hf:∀a∈fp,H a=none) :
  RS K ct F0 B ms F' H' (ρ.set i (some d)) (σ.set i (some v)):=by
 have r:=rs.ext x
 obtain⟨f1,fr,n1,b1,n3,i4,cf,put⟩:=rs.put (F':=F') (H':=H') hm
 refine put F' H' d v fp x.ff r.bh x.fh r.nf (λa z=>?_) o nd (λa z zb=>?_) λa z=>rs.bh.free (hf a z)
 ·obtain⟨hn,o,ho,nt⟩:=cf a z
  exact⟨(x.hh _ _ ho).trans ho.symm,x.nf a o ho nt hn⟩
 ·obtain⟨hn,o,ho,nt⟩:=cf a zb
  rw[hf a z]at ho
  cases ho
theorem Tl (hm:ms[i]?=some (.ow k))(hN:X.N.Nodup)(hi:X.N[i]?=some x)(hx:Loc X.env.scope x)(he:XO X ct ms k e f)(hs:eI e (some (.Name x pos')) pos.line X.env=pure false:=by rfl)
  (hf:X.fn x=true\/X.env.scope.names.lookup x=some .local:=by first|exact .inl rfl|exact .inr rfl|assumption):XS X ct ms rk (.Assign [.Name x pos'] e pos) (sSet i f):=by
 obtain⟨t,pt,qt⟩:=he
 refine⟨_,Lx hN hi hx pt hs hf,λF0 B F H ρ σ o E rs e w=>?_⟩
 obtain⟨d,h1,h2⟩:=ck e
 cases h2
 exact qt F0 B F H ρ σ d _ rs h1 λv F' H' fp x l nd hf=>w _ F' H' (rs.set hm x l nd hf)
theorem Ql (hc:XT X ct ms c p)(hb:rF X ct ms rk rest u)(hp:kD (cr X.prog X.w) X.A X.env X.xe):XS X ct ms rk (.While c rest [] pos) (rl p u):=by
 obtain⟨t,pt,qt⟩:=hc
 obtain⟨t1,vE,vF⟩:=hb
 refine⟨_,Qv hp pt vE,λF0 B F H ρ σ o E rs e z=>?_⟩
 refine⟨λm σ H=>∃F ρ,RS X.K ct F0 B ms F H ρ σ/\nO p u m ρ=some o,⟨tf,F,ρ,rs,e⟩,?_⟩
 rintro m σ H ⟨F,ρ,rs,e⟩
 cases m with
 |zero=>cases e
 |succ m=>
  obtain⟨x,h1,h2⟩:=ck e
  refine qt F0 B F H ρ σ x _ rs h1 λF1 H1 x1=>?_
  cases x with
  |true=>
   rw[if_pos rfl]at h2 ⊢
   obtain⟨o1,h3,h4⟩:=ck h2
   refine⟨λσ H=>∃F ρ,RS X.K ct F0 B ms F H ρ σ/\nO p u m ρ=some o,λσ' H' h=>⟨m,lh m,h⟩,?_⟩
   refine vF F0 B F1 H1 ρ σ o1 _ (rs.ext x1) h3 ?_
   cases o1 with
   |nx ρ'=>exactλσ' F' H' r=>⟨F',ρ',r,h4⟩
   |ct ρ'=>exactλσ' F' H' r=>⟨F',ρ',r,h4⟩
   |bk ρ'=>cases h4;exact z
   |rt d=>cases h4;exact z
  |false=>
   rw[if_neg bV]at h2 ⊢
   cases h2
   exact z σ F1 H1 (rs.ext x1)
theorem RS.re (r:RS K ct F0 B ms F H ρ σ):RS K ct F B ms F H ρ σ:=⟨.refl _,r.bh,r.fh,λ_ _ _ _ h=>h,r.sl⟩
theorem RS.back {σ':St}(r:RS K ct F0 B ms F H ρ σ)(q:RS K ct F B ms F' H' ρ' σ'):RS K ct F0 B ms F' H' ρ' σ' :=
 ⟨r.f0.trans q.f0,q.bh,q.fh,λa o h t n=>q.nf a o h t (r.nf a o h t n),q.sl⟩
theorem n8.re {E:nG}{o:Out}(r:RS K ct F0 B ms F H ρ σ)(z:n8 K ct F0 B ms rk E o):n8 K ct F B ms rk E o:=by
 cases o with
 |nx ρ=>exactλσ' F' H' q=>z σ' F' H' (r.back q)
 |bk ρ=>exactλσ' F' H' q=>z σ' F' H' (r.back q)
 |ct ρ=>exactλσ' F' H' q=>z σ' F' H' (r.back q)
 |rt d=>exactλv F' H' fp s1 s2 s3 s4=>z v F' H' fp (r.f0.trans s1) s2 s3 λa o h t n=>s4 a o h t (r.nf a o h t n)
noncomputable def uW (K:bG)(ct:Nat->bI)(F B:Hp)(n:Nat)(J:It)(ds:List D):Prop :=
 ∀(i:Nat) (F' H':Hp),cR F F'->cR B H'->cR F' H'->(∀d,ds[i]?=some d->J.go i H'/\∀x H2,J.yld i H' x H2->∃F2,iU F' H' F2 H2/\Al K ct F2 B n d x)/\(ds.length<=i->J.stop i H')
noncomputable def XI (X:Cx)(ct:Nat->bI)(ms:List Mo)(n:Nat)(tg iter:Expr)(f:Env->Option (List D)):Prop:=∃wi,PI X tg iter wi/\∀(F0 B F H:Hp) (ρ:Env) (σ:St) (ds:List D) (R:It->Hp->Prop),RS X.K ct F0 B ms F H ρ σ->f ρ=some ds ->
 (∀J F' H',iU F H F' H'->uW X.K ct F' B n J ds->R J H')->wi σ H R
noncomputable def AQ (X:Cx)(c:Prop)(ct:Nat->bI)(ms:List Mo)(n:Nat)(tg iter:Expr)(f:Env->Option (List D)):Prop:=∃wi,Cc X c tg iter wi/\∀(F0 B F H:Hp) (ρ:Env) (σ:St) (ds:List D) (R:It->Hp->Prop),RS X.K ct F0 B ms F H ρ σ->f ρ=some ds ->
 (∀J F' H',iU F H F' H'->uW X.K ct F' H' n J ds->R J H')->wi σ H R
noncomputable abbrev An (X:Cx):=AQ X (X.calm=true)
noncomputable def XG (X:Cx)(ct:Nat->bI)(ms:List Mo)(n:Nat)(tg:Expr)(g:D->Env->Option Env):Prop:=∃t,PG X tg t/\∀(F0 B F H:Hp) (ρ ρ':Env) (σ:St) (d:D) (v:V) (Q:St->Hp->Prop),RS X.K ct F0 B ms F H ρ σ->Al X.K ct F B n d v->g d ρ=some ρ' ->
 (∀σ',RS X.K ct F0 B ms F H ρ' σ'->Q σ' H)->t v σ H Q
theorem Tn (hi:XI X ct ms n tg iter fi)(hg:XG X ct ms n tg gg)(hb:rF X ct ms rk rest u)(hp:kD (cr X.prog X.w) X.A X.env X.xe)(hc:X.calm=true)
  (hs:∀x,ed iter X.env x=pure x:=by intro _;rfl):XS X ct ms rk (.For tg iter rest [] pos) (sFor fi gg u):=by
 obtain⟨wi,pi,qi⟩:=hi
 obtain⟨Jv,pg,qg⟩:=hg
 obtain⟨t1,vE,vF⟩:=hb
 refine⟨_,Tr hp hc pi pg vE hs,λF0 B F H ρ σ o E rs e z=>?_⟩
 obtain⟨ds,h1,h2⟩:=ck e
 refine qi F0 B F H ρ σ ds _ rs h1 λJ F1 H1 x1 ok=>?_
 refine⟨λi m σ H=>m=ds.length-i/\i<=ds.length/\∃F ρ,cR F1 F/\RS X.K ct F0 B ms F H ρ σ/\lU gg u (ds.drop i) ρ=some o,⟨ds.length,rfl,eY _,F1,ρ,.refl _,rs.ext x1,h2⟩,?_⟩
 rintro i m σ H ⟨rfl,Nv,F,ρ,s1,rs,e⟩
 obtain⟨k1,k2⟩:=ok i F H s1 rs.bh rs.fh
 by_cases o7:i<ds.length
 ·right
  have hd:ds[i]?=some ds[i]:=by simp[o7]
  obtain⟨go,yl⟩:=k1 _ hd
  rw[qD o7]at e
  obtain⟨ρ1,h3,h4⟩:=ck e
  obtain⟨o1,h5,h6⟩:=ck h4
  refine⟨go,λσ H=>i+1<=ds.length/\∃F ρ,cR F1 F/\RS X.K ct F0 B ms F H ρ σ/\lU gg u (ds.drop (i+1)) ρ=some o,λσ' H' h=>⟨ds.length-(i+1),by omega,rfl,h⟩,λx H2 y=>?_⟩
  obtain⟨F2,x2,l⟩:=yl x H2 y
  refine qg F0 B F2 H2 ρ ρ1 σ _ x _ (rs.ext x2) l h3 λσ' r=>?_
  have s2:=s1.trans x2.ff
  refine vF F2 B F2 H2 ρ1 σ' o1 _ r.re h5 ?_
  cases o1 with
  |nx ρ'=>exactλσ' F' H' q=>⟨o7,F',ρ',s2.trans q.f0,r.back q,h6⟩
  |ct ρ'=>exactλσ' F' H' q=>⟨o7,F',ρ',s2.trans q.f0,r.back q,h6⟩
  |bk ρ'=>cases h6;exactλσ' F' H' q=>z σ' F' H' (r.back q)
  |rt d=>cases h6;exact n8.re (o:=.rt d) r z
 ·left
  refine⟨k2 (by omega),?_⟩
  have:ds.drop i=[]:=rP (by omega)
  rw[this]at e
  cases e
  exact z σ F H rs
noncomputable def gV (i:Nat):D->Env->Option Env:=λd ρ=>some (ρ.set i (some d))
theorem Ro (hm:ms[i]?=some (.ow 0))(hN:X.N.Nodup)(hi:X.N[i]?=some x)(hx:Loc X.env.scope x)
  (hf:X.fn x=true\/X.env.scope.names.lookup x=some .local:=by first|exact .inl rfl|exact .inr rfl|assumption):XG X ct ms 0 (.Name x pos) (gV i):=by
 refine⟨_,KR hN hi hx hf,λF0 B F H ρ ρ' σ d v Q rs l e w=>?_⟩
 cases e
 exact w _ (rs.set hm (.refl rs.fh) (Ow.zero l) cQ λa z=>(by cases z))
noncomputable def DV (X:Cx)(ct:Nat->bI)(ms:List Mo)(n:Nat)(oi:List Expr)(g:List D->Env->Option Env):Prop:=∃t,BA X oi t/\(∀ds ρ ρ',g ds ρ=some ρ'->ds.length=oi.length)/\∀(F0 B F H:Hp) (ρ ρ':Env) (σ:St) (ds:List D) (vs:List V) (Q:St->Hp->Prop),RS X.K ct F0 B ms F H ρ σ->Pr (Al X.K ct F B n) ds vs->g ds ρ=some ρ' ->
 (∀σ',RS X.K ct F0 B ms F H ρ' σ'->Q σ' H)->t vs σ H Q
noncomputable def gsNil:List D->Env->Option Env:=λds ρ=>match ds with
 |[]=>some ρ
 |_=>none
noncomputable def gsCons (g:D->Env->Option Env)(gs:List D->Env->Option Env):List D->Env->Option Env:=λds ρ=>match ds with
 |d::ds=>(g d ρ).bind λρ'=>gs ds ρ'
 |[]=>none
theorem qf:DV X ct ms n [] gsNil:=by
 refine⟨_,KS,λds ρ ρ' e=>?_,λF0 B F H ρ ρ' σ ds vs Q rs l e w=>?_⟩
 ·cases ds with
  |nil=>rfl
  |cons d ds=>cases e
 ·cases l with
  |nil=>cases e;exact⟨rfl,w σ rs⟩
  |cons _ _=>cases e
theorem ye (h1:XG X ct ms n tg gg)(h2:DV X ct ms n oi gs)
  (hs:(eu (tg::oi) X.env).map (·.2)=kO tg X.env::(eu oi X.env).map (·.2):=by rfl):DV X ct ms n (tg::oi) (gsCons gg gs):=by
 obtain⟨t,pt,qt⟩:=h1
 obtain⟨t2,nh,Bd,pY⟩:=h2
 refine⟨_,Ks pt nh hs,λds ρ ρ' e=>?_,λF0 B F H ρ ρ' σ ds vs Q rs l e w=>?_⟩
 ·cases ds with
  |nil=>cases e
  |cons d ds=>
   obtain⟨ρ1,h3,h4⟩:=ck e
   rw[bM,bM,Bd _ _ _ h4]
 ·cases l with
  |nil=>cases e
  |cons h t=>
   obtain⟨ρ1,h3,h4⟩:=ck e
   exact⟨_,_,rfl,qt F0 B F H ρ ρ1 σ _ _ _ rs h h3 λσ1 r1=>pY F0 B F H ρ1 ρ' σ1 _ _ _ r1 t h4 w⟩
noncomputable def gT (gs:List D->Env->Option Env):D->Env->Option Env:=λd ρ=>match d with
 |.tup ds=>gs ds ρ
 |_=>none
theorem DJ (hc:X.calm=true)(h:DV X ct ms (n-1) oi gs)(hl:(eu oi X.env).length=oi.length:=by rfl)(mj:(eu oi X.env).findIdx? (·.1)=none:=by rfl):XG X ct ms n (.Tuple oi j pos) (gT gs):=by
 obtain⟨t,pt,lt,qt⟩:=h
 refine⟨_,Lv (n:=oi.length) hc pt hl mj,λF0 B F H ρ ρ' σ d v Q rs l e w=>?_⟩
 cases d with
 |tup ds=>
  have l':Al X.K ct F H n (.tup ds) v:=l.mono (.refl _) rs.bh
  have:∃a vs,v=.ref a/\lN X.K H a vs/\Pr (Al X.K ct F B (n-1)) ds vs:=by
   cases n with
   |zero=>
    have l:Dt X.K ct F (.tup ds) v:=l
    cases l with
    |tup q t=>exact⟨_,_,rfl,lN.of (rs.fh _ _ q),t.pr⟩
   |succ n=>
    rcases l with l|l
    ·cases l with
     |tup q t=>exact⟨_,_,rfl,lN.of (rs.fh _ _ q),t.pr.mono λ_ _=>Al.of⟩
    ·cases l with
     |tup q t=>exact⟨_,_,rfl,lN.of (rs.fh _ _ q),t⟩
  obtain⟨a,vs,rfl,ha,hp⟩:=this
  exact⟨a,vs,rfl,ha,hp.length.symm.trans (lt _ _ _ e),qt F0 B F H ρ ρ' σ ds vs Q rs hp e w⟩
 |_=>cases e
noncomputable def startD (N:List Str)(ds:List D):Env:=ds.map some++bQ (N.length-ds.length) none
noncomputable def mOf (N:List Str)(b:SF)(ds:List D):Option D:=(b (startD N ds)).bind λo=>match o with
 |.rt d=>some d
 |.nx _=>some .non
 |_=>none
theorem SL.start {K:bG}{F B H:Hp}:∀{pm:List Nat} {ds:List D} {vs:List V} {ms:List Mo} (j:Nat),mC K ct F B pm ds vs->(∀(i n:Nat),pm[i]?=some n->ms[i]?=some (Mo.al n)\/(n=0/\ms[i]?=some (Mo.ow 0)))->ms.length=pm.length+j ->
  SL K ct F B H ms (ds.map some++bQ j none) (vs.map some++bQ j none) []
 |_,_,_,ms,j,.nil,_,hl=>by
  have:∀(j:Nat) (ms:List Mo),ms.length=j->SL K ct F B H ms (bQ j none) (bQ j none) []:=by
   intro j
   induction j with
   |zero=>intro ms h;cases ms with
    |nil=>exact .nil
    |cons _ _=>simp at h
   |succ j ih=>intro ms h;cases ms with
    |nil=>simp at h
    |cons m ms=>exact .no (ih ms (by simpa using h))
  simpa using this j ms (by simpa using hl)
 |_,_,_,[],j,.cons h t,_,hl=>by simp at hl;omega
 |_,_,_,m::ms,j,.cons (n:=n) h t,hm,hl=>by
  have ih:=SL.start (ms:=ms) (H:=H) j t (λi n e=>by simpa using hm (i+1) n (by simpa using e)) (by simp at hl;omega)
  rcases hm 0 n rfl with e|⟨rfl,e⟩
  ·simp at e;subst e;exact .al h ih
  ·simp at e;subst e;exact SL.ow (f:=[]) (Ow.zero h) ih
structure Fun2 (K:bG)(x qual:Str)(st:dH)(f:bI)(fd:bW):Prop where
 ex:∃(oc:bC) (od:Option bI) (dV kV doc pm:bC) (an:Option bI) (iF ct:bC) (yA:Array (Option bC)),
  fd=kR x qual (jH st) (fZ st) (cU st) dV kV doc pm an iF ct/\K.lookup f=some ⟨oc,od,.func fd,yA⟩/\oO K iF qual=true
 kp:ei K (.ref f)=true
theorem Fun2.ok {w:cY}{f:bI}{fd:bW}{sp:Sp}(F:Fun2 K x qual st f fd)(S:fX N ps (cU st))(len:∀vs H Q E,sp vs H Q E->vs.length=ps.length)
    (wR:∀(iF:bC) (A:c7) (outer:List PySem.Env) (s:bP) (H:Hp) (vs:List V) (Q:VK) (E:XK),eG k (A.deeper (envOfC qual (cU st) s.heap.objs.size f iF))->sp vs H Q E ->
      ∃t,tD (oW fK P w K mg base N qual (cU st) f iF A outer s H E).nox (fZ st) t/\t { nx:=λ_ H'=>Q .non H',rt:=Q } (L2.start N vs) H):dm P w K mg base fK (k+1) f fd ps sp:=by
  obtain⟨oc,od,dV,kV,doc,pm,an,iF,ct,yA,rfl,lk,kJ⟩:=F.ex
  refine UH lk kJ S len λA outer s H vs Q E hr Ay=>?_
  obtain⟨t,h,q⟩:=wR iF A outer s H vs Q E hr Ay
  exact⟨t,h.nox,q⟩
theorem lift {w:cY}{fd:bW}(Fn:Fun2 K x qual st fa fd)(S:fX N ps (cU st))(yS:pm.length=ps.length)(BK:ms.length=N.length)(oZ:ps.length<=N.length)
  (AX:∀(i n:Nat),pm[i]?=some n->ms[i]?=some (Mo.al n)\/(n=0/\ms[i]?=some (Mo.ow 0)))
  (body:∀(iF:bC) (A:c7) (outer:List PySem.Env) (s:bP) (H:Hp) (E:XK),eG kk (A.deeper (envOfC qual (cU st) s.heap.objs.size fa iF))->rF (oW fK P w K mg base N qual (cU st) fa iF A outer s H E).nox ct ms rk (fZ st) bf) :
  dm P w K mg base fK (kk+1) fa fd ps (jB K ct pm rk (mOf N bf)):=by
 refine Fn.ok S (jB.len yS) λiF A outer s H vs Q E hr h=>?_
 obtain⟨F,ds,d,sF,l,hm,q⟩:=h
 obtain⟨t,pt,qt⟩:=body iF A outer s H E hr
 refine⟨t,pt,?_⟩
 obtain⟨o,h1,h2⟩:=ck hm
 have VG:vs.length=pm.length:=l.length
 have yQ:ds.length=vs.length:=l.length'
 refine qt F H F H (startD N ds) (L2.start N vs) o _ ⟨.refl _,.refl _,sF,λ_ _ _ _ h=>h,[],?_,cQ,λa z=>(by cases z)⟩ h1 ?_
 ·unfold startD L2.start
  rw[yQ]
  exact SL.start _ l AX (by omega)
 ·cases o with
  |nx ρ=>
   cases h2
   exactλσ F' H' r=>q .non F' H' [] ⟨r.f0,r.bh,r.fh,r.nf⟩ (Ow.scal .non rfl) cQ λa z=>(by cases z)
  |rt d'=>
   cases h2
   exactλv F' H' fp s1 s2 s3 s4 o nd hf=>q v F' H' fp ⟨s1,s2,s3,s4⟩ o nd hf
  |bk ρ=>cases h2
  |ct ρ=>cases h2
theorem jC.or {f:bC->bC->yJ bC}{r':R2}(h:jC X f r)(h':jC X f r'):jC X f (λx y H Q=>r x y H Q\/r' x y H Q) :=
 λbH s σ H x y v u Q I rx ry q=>q.elim (h bH s σ H x y v u Q I rx ry) (h' bH s σ H x y v u Q I rx ry)
variable {gv:Int->Int->V}{neg:Bool}
noncomputable def i2 (g:Int->Int->D):D->D->Option D
 |.int i,.int j=>some (g i j)
 |_,_=>none
noncomputable def wY (C:Int->Int->Prop)[∀i j,Decidable (C i j)](g:Int->Int->D):D->D->Option D
 |.int i,.int j=>if C i j then some (g i j)else none
 |_,_=>none
theorem Fb {g:Int->Int->D}(hg:∀i j F,Dt K ct F (g i j) (gv i j)):oP K ct n m k (sT gv) (i2 g):=by
 intro F H x y d1 d2 d Q s l1 l2 e w
 cases d1 with
 |int i=>
  cases d2 with
  |int j=>cases e;exact⟨i,j,l1.int,l2.int,w _ F H (.refl s) (Al.of (hg i j F))⟩
  |_=>cases e
 |_=>cases e
theorem E6 {C C':Int->Int->Prop}[∀i j,Decidable (C i j)]{g:Int->Int->D}(hC:∀i j,C i j->C' i j)(hg:∀i j F,Dt K ct F (g i j) (gv i j)):oP K ct n m k (rI C' gv) (wY C g):=by
 intro F H x y d1 d2 d Q s l1 l2 e w
 cases d1 with
 |int i=>
  cases d2 with
  |int j=>
   unfold wY at e
   dsimp only at e
   by_cases h:C i j
   ·rw[if_pos h]at e;cases e;exact⟨i,j,l1.int,l2.int,hC i j h,w _ F H (.refl s) (Al.of (hg i j F))⟩
   ·rw[if_neg h]at e;cases e
  |_=>cases e
 |_=>cases e
noncomputable def Il:Nat:=2 ^ 9000
noncomputable def B4:Nat:=2 ^ 100000
noncomputable def vM:D->D->Option D:=i2 λi j=>.int (i-j)
theorem Rp:oP K ct n m k (sT λi j=>.int (i-j)) vM:=Fb λ_ _ _=>.int _
noncomputable def og (i j:Int):Prop:=(-18446744073709551616<i/\i<18446744073709551616)\/(-18446744073709551616<j/\j<18446744073709551616)\/(i.natAbs<B4/\j.natAbs<B4)
noncomputable instance (i j:Int):Decidable (og i j):=by unfold og;infer_instance
noncomputable def ig:D->D->Option D:=wY og λi j=>.int (i*j)
theorem og.ok {i j:Int}(h:og i j):qH i j:=by
 rcases h with h|h|h
 ·exact .inl (.inl ⟨by have:=h.1;omega,by have:=h.2;omega⟩)
 ·exact .inl (.inr ⟨by have:=h.1;omega,by have:=h.2;omega⟩)
 ·exact .inr h
theorem Rq:oP K ct n m k (rI qH λi j=>.int (i*j)) ig:=E6 (λ_ _=>og.ok) λ_ _ _=>.int _
noncomputable def D.v:D->V
 |.bl b=>.bl b
 |.int i=>.int i
 |.str x=>.str x
 |_=>.non
theorem Dt.v {v:V}(h:Dt K ct F d v)(hs:d.sc=true):v=d.v:=by
 cases h<;>first|rfl|cases hs
theorem Al.v {v:V}(h:Al K ct F G n d v)(hs:d.sc=true):v=d.v:=Dt.v (Al.scal (F':=F) h hs) hs
theorem D.flat (hs:d.sc=true):kI d.v=true:=by cases d<;>first|rfl|cases hs
theorem Pr.vs {F G:Hp}:∀{ds:List D} {vs:List V},Pr (Al K ct F G n) ds vs->ds.all D.sc=true->vs=ds.map D.v
 |_,_,.nil,_=>rfl
 |d::ds,v::vs,.cons h t,e=>by
  rw[fL,cw]at e
  rw[cn,Al.v h e.1,Pr.vs t e.2]
noncomputable def iw:D->D->Option D
 |.int i,.int j=>if 0<j/\j<4611686018427387904 then some (.int (i/j))else if j≠0/\j.natAbs<Il then some (.int (i.fdiv j))else none
 |_,_=>none
theorem QK:oP K ct n m k (rI (λ_ j=>j≠0/\Sz 9000 j) λi j=>.int (i.fdiv j)) iw:=by
 intro F H x y d1 d2 d Q s l1 l2 e w
 cases d1 with
 |int i=>
  cases d2 with
  |int j=>
   unfold iw at e
   dsimp only at e
   by_cases h:0<j/\j<4611686018427387904
   ·rw[if_pos h]at e
    cases e
    refine⟨i,j,l1.int,l2.int,⟨by omega,?_⟩,?_⟩
    ·have:Sz 62 j:=by unfold Sz;omega
     exact this.mono (by decide)
    ·show Q (.int (i.fdiv j)) H
     rw[qC i (by omega)]
     exact w _ F H (.refl s) (Al.of (.int _))
   ·rw[if_neg h]at e
    by_cases h:j≠0/\j.natAbs<Il
    ·rw[if_pos h]at e
     cases e
     exact⟨i,j,l1.int,l2.int,h,w _ F H (.refl s) (Al.of (.int _))⟩
    ·rw[if_neg h]at e;cases e
  |_=>cases e
 |_=>cases e
noncomputable def eU:D->D->Option D
 |.int i,.int j=>if 0<j then some (.int (i%j))else if j≠0 then some (.int (i.fmod j))else none
 |_,_=>none
theorem R4:oP K ct n m k (rI (λ_ j=>j≠0) λi j=>.int (i.fmod j)) eU:=by
 intro F H x y d1 d2 d Q s l1 l2 e w
 cases d1 with
 |int i=>
  cases d2 with
  |int j=>
   unfold eU at e
   dsimp only at e
   by_cases h:0<j
   ·rw[if_pos h]at e
    cases e
    refine⟨i,j,l1.int,l2.int,by omega,?_⟩
    show Q (.int (i.fmod j)) H
    rw[Int.fmod_eq_emod_of_nonneg i (by omega)]
    exact w _ F H (.refl s) (Al.of (.int _))
   ·rw[if_neg h]at e
    by_cases h:j≠0
    ·rw[if_pos h]at e
     cases e
     exact⟨i,j,l1.int,l2.int,h,w _ F H (.refl s) (Al.of (.int _))⟩
    ·rw[if_neg h]at e;cases e
  |_=>cases e
 |_=>cases e
noncomputable def qL (i j:Int):Prop:=0<=j/\j<=1000000/\i.natAbs<18446744073709551616
noncomputable instance (i j:Int):Decidable (qL i j):=by unfold qL;infer_instance
noncomputable def vD:D->D->Option D:=wY qL λi j=>.int (i ^ j.toNat)
theorem HH:oP K ct n m k (rI yK λi j=>.int (i ^ j.toNat)) vD:=E6 (λ_ _ h=>⟨h.1,h.2.1,by have:=h.2.2;omega⟩) λ_ _ _=>.int _
noncomputable def zQ:D->D->Option D:=wY qL λi j=>.int (i*2 ^ j.toNat)
theorem R5:oP K ct n m k (rI yK λi j=>.int (i*2 ^ j.toNat)) zQ:=E6 (λ_ _ h=>⟨h.1,h.2.1,by have:=h.2.2;omega⟩) λ_ _ _=>.int _
noncomputable def vK:D->D->Option D:=wY (λ_ j=>0<=j) λi j=>.int (i/2 ^ j.toNat)
theorem KY:oP K ct n m k (rI (λ_ j=>0<=j) λi j=>.int (i/2 ^ j.toNat)) vK:=E6 (λ_ _ h=>h) λ_ _ _=>.int _
noncomputable def rK:D->D->Option D:=i2 λi j=>.bl (decide (i<j))
noncomputable def xU:D->D->Option D:=i2 λi j=>.bl (decide (j<i))
noncomputable def BH:D->D->Option D:=i2 λi j=>.bl (decide (j<=i))
theorem LM:oP K ct n m k (sT λi j=>.bl (decide (i<j))) rK:=Fb λ_ _ _=>.bl _
theorem LN:oP K ct n m k (sT λi j=>.bl (decide (j<i))) xU:=Fb λ_ _ _=>.bl _
theorem LO:oP K ct n m k (sT λi j=>.bl (decide (j<=i))) BH:=Fb λ_ _ _=>.bl _
noncomputable def Bj:R2:=λx y H Q=>∃i j,x=.str i/\y=.str j/\Q (.bl (!(decide (j.cps.toList<i.cps.toList)))) H
theorem To:jC X (dZ .LtE) Bj:=by
 intro bH s σ H x y v u Q I rx ry h
 obtain⟨i,j,rfl,rfl,q⟩:=h
 obtain⟨t,rfl⟩:=rx
 obtain⟨t',rfl⟩:=ry
 exact PySem.P.le_str ⟨.bl _,H,I,rfl,q⟩
noncomputable def vA:D->D->Option D
 |.int i,.int j=>some (.bl (decide (i<=j)))
 |.str i,.str j=>some (.bl (!(decide (j.cps.toList<i.cps.toList))))
 |_,_=>none
theorem R6:oP K ct n m k (λx y H Q=>sT (λi j=>.bl (decide (i<=j))) x y H Q\/Bj x y H Q) vA:=by
 intro F H x y d1 d2 d Q s l1 l2 e w
 cases d1 with
 |int i=>
  cases d2 with
  |int j=>cases e;exact .inl ⟨i,j,l1.int,l2.int,w _ F H (.refl s) (Al.of (.bl _))⟩
  |_=>cases e
 |str i=>
  cases d2 with
  |str j=>cases e;exact .inr ⟨i,j,l1.str,l2.str,w _ F H (.refl s) (Al.of (.bl _))⟩
  |_=>cases e
 |_=>cases e
theorem Tp:jC X (dZ .LtE) (λx y H Q=>sT (λi j=>.bl (decide (i<=j))) x y H Q\/Bj x y H Q):=jC.or UG To
noncomputable def D.isN:D->Bool
 |.non=>true
 |_=>false
noncomputable def D.isB (b:Bool):D->Bool
 |.bl c=>c==b
 |_=>false
noncomputable def uI (neg:Bool):D->D->Option D
 |d,.non=>some (.bl (if neg then !d.isN else d.isN))
 |d,.bl b=>some (.bl (if neg then !d.isB b else d.isB b))
 |_,_=>none
theorem Al.ref {v:V}(h:Al K ct F G n d v)(hs:d.sc=false):∃a,v=.ref a:=by
 cases n with
 |zero=>cases(show Dt K ct F d v from h)<;>first|cases hs;done|exact⟨_,rfl⟩
 |succ n=>rcases h with h|h<;>cases h<;>first|cases hs;done|exact⟨_,rfl⟩
theorem Al.isn {v:V}(h:Al K ct F G n d v):decide (v=.non)=d.isN:=by
 cases hs:d.sc with
 |true=>
  have:=Al.v h hs
  subst this
  cases d<;>first|rfl|cases hs
 |false=>
  obtain⟨a,rfl⟩:=h.ref hs
  cases d<;>first|rfl|cases hs
theorem Al.isb {v:V}{b:Bool}(h:Al K ct F G n d v):decide (v=.bl b)=d.isB b:=by
 cases hs:d.sc with
 |true=>
  have:=Al.v h hs
  subst this
  cases d<;>first|rfl|(cases hs;done)|(rename_i c;cases b<;>cases c<;>rfl)
 |false=>
  obtain⟨a,rfl⟩:=h.ref hs
  cases d<;>first|rfl|cases hs
noncomputable def Jp:R2:=λx y H Q=>(y=.non/\Q (.bl (decide (x=.non))) H)\/∃b,y=.bl b/\Q (.bl (decide (x=.bl b))) H
theorem UQ:jC X (dZ .Is) Jp:=jC.or Tw TN
theorem Tq:oP K ct n m k Jp (uI false):=by
 intro F H x y d1 d2 d Q s l1 l2 e w
 cases d2 with
 |non=>
  cases e
  refine .inl ⟨l2.non,?_⟩
  rw[l1.isn]
  exact w _ F H (.refl s) (Al.of (.bl _))
 |bl b=>
  cases e
  refine .inr ⟨b,l2.bl,?_⟩
  rw[l1.isb]
  exact w _ F H (.refl s) (Al.of (.bl _))
 |_=>cases e
mutual
noncomputable def D.py:D->Option cx
 |.non=>some .none
 |.bl b=>some (.bool b)
 |.int i=>some (.int i)
 |.str x=>some (.str x)
 |.lst xs=>(D.pys xs).bind λys=>some (.list ys)
 |.tup xs=>(D.pys xs).bind λys=>some (.tuple ys)
 |_=>none
noncomputable def D.pys:List D->Option (List cx)
 |[]=>some []
 |d::ds=>(D.py d).bind λx=>(D.pys ds).bind λxs=>some (x::xs)
end
theorem Dt.toPy (s:cR F H){v:V}{e:cx}(h:Dt K ct F d v)(q:d.py=some e):L2.Dt K H v e:=by
 refine Dt.rec (motive_1:=λd v _=>∀e,d.py=some e->L2.Dt K H v e) (motive_2:=λds vs _=>∀es,D.pys ds=some es->L2.Dts K H vs es) ?_ ?_ ?_ ?_ ?_ ?_ ?_ ?_ ?_ ?_ ?_ ?_ ?_ ?_ h e q
 ·intro e h;rw[D.py]at h;cases h;exact .non
 ·intro b e h;rw[D.py]at h;cases h;exact .bl b
 ·intro b e h;rw[D.py]at h;cases h;exact .int b
 ·intro b e h;rw[D.py]at h;cases h;exact .str b
 ·intro _ _ _ q _ t e h
  rw[D.py]at h
  obtain⟨ys,h1,h2⟩:=ck h
  cases h2
  exact .lst (s.seq q) (t _ h1)
 ·intro _ _ _ q _ t e h
  rw[D.py]at h
  obtain⟨ys,h1,h2⟩:=ck h
  cases h2
  exact .tup (lN.of (s _ _ q)) (t _ h1)
 ·intro _ _ _ _ _ _ _ _ e h;simp only[D.py]at h;cases h
 ·intro _ _ _ _ _ _ _ _ e h;simp only[D.py]at h;cases h
 ·intro _ _ _ _ _ _ _ _ _ _ e h;simp only[D.py]at h;cases h
 ·intro _ _ _ _ e h;simp only[D.py]at h;cases h
 ·intro _ _ _ _ _ _ _ _ _ _ _ _ e h;simp only[D.py]at h;cases h
 ·intro _ _ _ _ _ _ e h;simp only[D.py]at h;cases h
 ·intro e h;rw[D.pys]at h;cases h;exact .nil
 ·intro _ _ _ _ _ _ p t e h
  rw[D.pys]at h
  obtain⟨y,ys,h1,h2,h3⟩:=eM h
  cases h3
  exact .cons (p _ h1) (t _ h2)
theorem Pr.toPy (f:∀d v e,R d v->d.py=some e->L2.Dt K H v e){vs:List V}{es:List cx}(h:Pr R ds vs)(e:D.pys ds=some es):L2.Dts K H vs es:=by
 induction h generalizing es with
 |nil=>rw[D.pys]at e;cases e;exact .nil
 |cons h t ih=>
  rw[D.pys]at e
  obtain⟨y,ys,h1,h2,h3⟩:=eM e
  cases h3
  exact .cons (f _ _ _ h h1) (ih h2)
theorem Al.toPy (s:cR F H){v:V}{e:cx}(h:Al K ct F H n d v)(q:d.py=some e):L2.Dt K H v e:=by
 induction n generalizing d v e with
 |zero=>exact Dt.toPy s h q
 |succ n ih=>
  cases h with
  |inl h=>exact Dt.toPy s h q
  |inr h=>
   cases h with
   |lst h t=>
    rw[D.py]at q
    obtain⟨ys,h1,h2⟩:=ck q
    cases h2
    exact .lst (gp.of h) (Pr.toPy (λ_ _ _=>ih) t h1)
   |tup h t=>
    rw[D.py]at q
    obtain⟨ys,h1,h2⟩:=ck q
    cases h2
    exact .tup (lN.of (s _ _ h)) (Pr.toPy (λ_ _ _=>ih) t h1)
   |_=>simp only[D.py]at q;cases q
noncomputable def rh (a:cx):Bool:=a.canLay0&&decide (a.depth<=60)
noncomputable def fR (neg:Bool)(x y:D):Option D:=x.py.bind λa=>y.py.bind λb=>if rh a=true/\rh b=true then some (.bl (if neg then !cx.eqv a b else cx.eqv a b))else none
theorem w9:oP K ct n m k (Bh K neg) (fR neg):=by
 intro F H x y d1 d2 d Q s l1 l2 e w
 obtain⟨a,b,h1,h2,h3⟩:=eM e
 by_cases h:rh a=true/\rh b=true
 ·rw[if_pos h]at h3
  cases h3
  have o1:=h.1
  have o2:=h.2
  unfold rh at o1 o2
  rw[cw,decide_eq_true_iff]at o1 o2
  exact⟨a,b,Al.toPy s l1 h1,Al.toPy s l2 h2,o1.1,o2.1,dC (Nat.min_le_left _ _) o1.2,w _ F H (.refl s) (Al.of (.bl _))⟩
 ·rw[if_neg h]at h3;cases h3
variable {κ:Type}
theorem Pr.atI {vs:List V}{i:Int}(h:Pr R ds vs)(e:atI ds i=some d):∃v,atI vs i=some v/\R d v:=by
 unfold L2.atI at e ⊢
 rw[←h.length]
 obtain⟨j,h1,h2⟩:=ck e
 obtain⟨v,h3,h4⟩:=h.get' h2
 exact⟨v,by rw[h1];exact h3,h4⟩
noncomputable def zE:D->Option gN
 |.int i=>some (.inl i)
 |.str x=>some (.inr x)
 |_=>none
noncomputable def sf:List D->Option (List gN)
 |[]=>some []
 |d::ds=>(zE d).bind λk=>(sf ds).bind λks=>some (k::ks)
noncomputable def nJ [DecidableEq κ](ks:List κ)(ds:List D)(k:κ):Option D:=((ks.zip ds).find? λp=>decide (p.1=k)).map (·.2)
noncomputable def RO (R:D->V->Prop):Option D->Option V->Prop
 |some d,some u=>R d u
 |none,none=>True
 |_,_=>False
theorem RO.some_of {q:Option V}(h:RO R (some d) q):∃u,q=some u/\R d u:=by
 cases q with
 |none=>exact h.elim
 |some u=>exact⟨u,rfl,h⟩
theorem RO.none_of {q:Option V}(h:RO R none q):q=none:=by
 cases q with
 |none=>rfl
 |some u=>exact h.elim
theorem Hg {κ:Type}[DecidableEq κ]{R:D->V->Prop}{k:κ}:∀{ks:List κ} {ds:List D} {vs:List V},Pr R ds vs->RO R (nJ ks ds k) (lg (ks.zip vs) k)
 |[],_,_,_=>by simp[nJ,lg,RO]
 |_::_,_,_,.nil=>by simp[nJ,lg,RO]
 |y::ks,d::ds,v::vs,.cons h t=>by
  by_cases e:y=k
  ·have h1:nJ (y::ks) (d::ds) k=some d:=by simp[nJ,dN,e]
   have h2:lg ((y::ks).zip (v::vs)) k=some v:=by simp[lg,dN,e]
   rw[h1,h2]
   exact h
  ·have h1:nJ (y::ks) (d::ds) k=nJ ks ds k:=by simp[nJ,dN,e]
   have h2:lg ((y::ks).zip (v::vs)) k=lg (ks.zip vs) k:=by simp[lg,dN,e]
   rw[h1,h2]
   exact Hg t
theorem HN {v:V}{k:gN}(e:zE d=some k)(h:Al K ct F G n d v):v=kV k:=by
 cases d with
 |int i=>cases e;exact h.int
 |str i=>cases e;exact h.str
 |_=>cases e
theorem KZ {vs:List V}(e:sf ds=some ks)(h:Pr (Al K ct F G n) ds vs):vs=ks.map kV:=by
 induction h generalizing ks with
 |nil=>cases e;rfl
 |cons h t ih=>
  unfold sf at e
  obtain⟨k,ks,h1,h2,h3⟩:=eM e
  cases h3
  rw[HN h1 h,ih h2];rfl
noncomputable def uE (o y:D):Option (Option D):=match o with
 |.dK ks ds=>(zE y).bind λk=>some (nJ ks ds k)
 |.dT ks ds=>(match y with|.tup ys=>(sf ys).bind λk=>some (nJ ks ds k)|_=>none)
 |_=>none
theorem R7 {o y:D}{x v:V}(s:cR F G)(l1:Al K ct F G n o x)(l2:Al K ct F G m y v){r:Option D}(e:uE o y=some r) :
  ∃a q,x=.ref a/\uV G a v q/\Mw G a/\RO (Al K ct F G (n-1)) r q:=by
 cases o with
 |dK ks ds=>
  obtain⟨a,vs,rfl,ha,hl,hp⟩:=l1.dK s
  obtain⟨k,h1,h2⟩:=ck e
  cases h2
  have hv:=HN h1 l2
  subst hv
  exact⟨a,_,rfl,uV.k ha,.inl ⟨_,.inl ha⟩,Hg hp⟩
 |dT ks ds=>
  obtain⟨a,vs,rfl,ha,hl,hp⟩:=l1.dT s
  cases y with
  |tup ys=>
   obtain⟨k,h1,h2⟩:=ck e
   cases h2
   obtain⟨b,us,rfl,hb,Gg⟩:=l2.tup s
   have hv:=KZ h1 Gg
   subst hv
   exact⟨a,_,rfl,.inr ⟨_,_,_,ha,rfl,hb,rfl⟩,.inr ⟨_,ha⟩,Hg hp⟩
  |_=>cases e
 |_=>cases e
noncomputable def dY:D->D->Option D
 |.lst ds,.int i=>atI ds i
 |.tup ds,.int i=>atI ds i
 |.kt ds,.int i=>atI ds i
 |.str x,.int i=>if x.length<=16777216 then(atI x.cps.toList i).bind λc=>some (.str ⟨#[c]⟩)else none
 |_,_=>none
theorem LP:oP K ct n m (n-1) (Jq K) dY:=by
 intro F H x y d1 d2 d Q s l1 l2 e w
 cases d1 with
 |lst ds=>
  cases d2 with
  |int i=>
   obtain⟨a,vs,rfl,ha,hp⟩:=l1.lst s
   obtain⟨v,h1,h2⟩:=hp.atI e
   exact .inl ⟨a,vs,i,v,rfl,l2.int,ha,h1,w v F H (.refl s) h2⟩
  |_=>cases e
 |tup ds=>
  cases d2 with
  |int i=>
   obtain⟨a,vs,rfl,ha,hp⟩:=l1.tup s
   obtain⟨v,h1,h2⟩:=hp.atI e
   exact .inr (.inl ⟨a,vs,i,v,rfl,l2.int,lN.of ha,h1,w v F H (.refl s) h2⟩)
  |_=>cases e
 |kt ds=>
  cases d2 with
  |int i=>
   obtain⟨a,vs,rfl,ha,hp⟩:=l1.kt
   obtain⟨v,h1,h2⟩:=hp.atI e
   exact .inr (.inl ⟨a,vs,i,v,rfl,l2.int,.inr ha,h1,w v F H (.refl s) (Al.of h2)⟩)
  |_=>cases e
 |str z=>
  cases d2 with
  |int i=>
   unfold dY at e
   dsimp only at e
   by_cases h:z.length<=16777216
   ·rw[if_pos h]at e
    obtain⟨c,h1,h2⟩:=ck e
    cases h2
    exact .inr (.inr ⟨z,i,c,l1.str,l2.int,by rw[el];exact h,h1,w _ F H (.refl s) (Al.of (.str _))⟩)
   ·rw[if_neg h]at e;cases e
  |_=>cases e
 |_=>cases e
noncomputable def Ci:D->D->Bool
 |.non,.non=>true
 |.bl a,.bl b=>a==b
 |.bl a,.int b=>(if a then 1 else 0)==b
 |.int a,.bl b=>a==(if b then 1 else 0)
 |.int a,.int b=>a==b
 |.str a,.str b=>a==b
 |_,_=>false
theorem Mh {x y:D}(hx:x.sc=true)(hy:y.sc=true):uY x.v y.v=Ci x y:=by
 cases x<;>first|cases hx;done|(cases y<;>first|cases hy;done|rfl)
noncomputable def xX (x:D)(ds:List D):Bool:=ds.any λy=>Ci y x
theorem Fd {x:D}(hx:x.sc=true):∀{ds:List D},ds.all D.sc=true->Ed x.v (ds.map D.v)=xX x ds
 |[],_=>rfl
 |d::ds,h=>by
  rw[fL,cw]at h
  have ih:=Fd hx h.2
  unfold Ed xX at ih ⊢
  rw[cn,hG,hG,ih,Mh h.1 hx]
theorem uk:∀{ds:List D},ds.all D.sc=true->(ds.map D.v).all kI=true
 |[],_=>rfl
 |d::ds,h=>by
  rw[fL,cw]at h
  rw[cn,fL,D.flat h.1,uk h.2];rfl
noncomputable def inD (neg:Bool)(x y:D):Option D:=match y with
 |.lst ds=>if x.sc=true/\ds.all D.sc=true then some (.bl (if neg then !xX x ds else xX x ds))else none
 |.tup ds=>if x.sc=true/\ds.all D.sc=true then some (.bl (if neg then !xX x ds else xX x ds))else none
 |.kt ds=>if x.sc=true/\ds.all D.sc=true then some (.bl (if neg then !xX x ds else xX x ds))else none
 |_=>none
theorem HP:oP K ct n m k (GM K neg) (inD neg):=by
 intro F H x y d1 d2 d Q s l1 l2 e w
 cases d2 with
 |lst ds=>
  unfold inD at e
  dsimp only at e
  by_cases h:d1.sc=true/\ds.all D.sc=true
  ·rw[if_pos h]at e
   cases e
   obtain⟨a,vs,rfl,ha,hp⟩:=l2.lst s
   have hv:=hp.vs h.2
   subst hv
   have hx:=Al.v l1 h.1
   subst hx
   refine⟨a,_,rfl,.inl ha,D.flat h.1,uk h.2,?_⟩
   rw[Fd h.1 h.2]
   exact w _ F H (.refl s) (Al.of (.bl _))
  ·rw[if_neg h]at e;cases e
 |tup ds=>
  unfold inD at e
  dsimp only at e
  by_cases h:d1.sc=true/\ds.all D.sc=true
  ·rw[if_pos h]at e
   cases e
   obtain⟨a,vs,rfl,ha,hp⟩:=l2.tup s
   have hv:=hp.vs h.2
   subst hv
   have hx:=Al.v l1 h.1
   subst hx
   refine⟨a,_,rfl,.inr (lN.of ha),D.flat h.1,uk h.2,?_⟩
   rw[Fd h.1 h.2]
   exact w _ F H (.refl s) (Al.of (.bl _))
  ·rw[if_neg h]at e;cases e
 |kt ds=>
  unfold inD at e
  dsimp only at e
  by_cases h:d1.sc=true/\ds.all D.sc=true
  ·rw[if_pos h]at e
   cases e
   obtain⟨a,vs,rfl,ha,hp⟩:=l2.kt
   have hv:=Pr.vs (n:=0) (F:=F) (G:=H) (hp.mono λ_ _ q=>q) h.2
   subst hv
   have hx:=Al.v l1 h.1
   subst hx
   refine⟨a,_,rfl,.inr (.inr ha),D.flat h.1,uk h.2,?_⟩
   rw[Fd h.1 h.2]
   exact w _ F H (.refl s) (Al.of (.bl _))
  ·rw[if_neg h]at e;cases e
 |_=>cases e
noncomputable def eO:List D->Option D
 |[.lst ds]=>some (.int ds.length)
 |[.tup ds]=>some (.int ds.length)
 |[.kt ds]=>some (.int ds.length)
 |[.dK ks _]=>some (.int ks.length)
 |[.str x]=>if x.length<=16777216 then some (.int x.length)else none
 |_=>none
noncomputable def Dk (K:bG):List V->Hp->VK->Prop:=λxs H Q=>(∃p ys,xs=[.ref p]/\(gp K H p ys\/lN K H p ys)/\Q (.int ys.length) H)\/(∃z,xs=[.str z]/\z.length<=sizeLine/\Q (.int z.length) H)\/∃a dS,xs=[V.ref a]/\H a=some (.dK dS)/\Q (.int dS.length) H
theorem PL:gB X (.builtin "len") (Dk X.K):=OM.or (ON.or PZ)
theorem R8:wJ K ct [n] k (Dk K) eO:=by
 intro F H vs ds d Q s l e w
 cases l with
 |cons h t=>
  cases t
  rename_i d1 v
  cases d1 with
  |lst xs=>
   cases e
   obtain⟨a,us,rfl,ha,hp⟩:=h.lst s
   refine .inl ⟨a,us,rfl,.inl ha,?_⟩
   rw[←hp.length]
   exact w _ F H (.refl s) (Al.of (.int _))
  |tup xs=>
   cases e
   obtain⟨a,us,rfl,ha,hp⟩:=h.tup s
   refine .inl ⟨a,us,rfl,.inr (lN.of ha),?_⟩
   rw[←hp.length]
   exact w _ F H (.refl s) (Al.of (.int _))
  |kt xs=>
   cases e
   obtain⟨a,us,rfl,ha,hp⟩:=h.kt
   refine .inl ⟨a,us,rfl,.inr (.inr ha),?_⟩
   rw[←hp.length]
   exact w _ F H (.refl s) (Al.of (.int _))
  |str x=>
   unfold eO at e
   dsimp only at e
   by_cases hz:x.length<=16777216
   ·rw[if_pos hz]at e
    cases e
    exact .inr (.inl ⟨x,by rw[h.str],by rw[el];exact hz,w _ F H (.refl s) (Al.of (.int _))⟩)
   ·rw[if_neg hz]at e;cases e
  |dK ks xs=>
   cases e
   obtain⟨a,us,rfl,ha,hl,hp⟩:=h.dK s
   refine .inr (.inr ⟨a,_,rfl,ha,?_⟩)
   rw[hZ,←hl,jX]
   exact w _ F H (.refl s) (Al.of (.int _))
  |_=>cases e
variable {ι:Type}{cap:List Nat}{mV:Expr}{ifs:List Expr}{om:List Mo}{own:Nat}{scope:nD}
theorem UR {Xs:ι->Cx}(hK:∀i,(Xs i).K=K)(h:∀i,XO (Xs i) ct ms n e f):∃t,(∀i,PE (Xs i) e t)/\∀(F0 B F H:Hp) (ρ:Env) (σ:St) (d:D) (Q:VK),RS K ct F0 B ms F H ρ σ->f ρ=some d ->
  (∀v F' H' fp,iU F H F' H'->Ow K ct F' H' n d v fp->fp.Nodup->(∀a∈fp,H a=none)->Q v H')->t σ H Q:=by
 refine⟨λσ H Q=>∀i,(h i).choose σ H Q,λi bH s σ H Q I q=>(h i).choose_spec.1 bH s σ H Q I (q i),λF0 B F H ρ σ d Q rs e w i=>?_⟩
 exact(h i).choose_spec.2 F0 B F H ρ σ d Q (by rw[hK i];exact rs) e λv F' H' fp x l=>w v F' H' fp x (by rw[←hK i];exact l)
noncomputable def Ap (X:Cx)(ct:Nat->bI)(ms:List Mo)(ifs:List Expr)(f:BF):Prop:=∃t,Aj X ifs t/\∀(F0 B F H:Hp) (ρ:Env) (σ:St) (b:Bool) (Q:Bool->Hp->Prop),RS X.K ct F0 B ms F H ρ σ->f ρ=some b->(∀F' H',iU F H F' H'->Q b H')->t σ H Q
noncomputable def kE:BF:=λ_=>some true
theorem x6:Ap X ct ms [] kE:=⟨_,RG,λF0 B F H ρ σ b Q rs e w=>by cases e;exact w F H (.refl rs.fh)⟩
theorem EK (h:XT X ct ms c p):Ap X ct ms [c] p:=by
 obtain⟨t,pt,qt⟩:=h
 exact⟨t,RH pt,qt⟩
theorem US {Xs:ι->Cx}{f:BF}(hK:∀i,(Xs i).K=K)(h:∀i,Ap (Xs i) ct ms ifs f):∃t,(∀i,Aj (Xs i) ifs t)/\∀(F0 B F H:Hp) (ρ:Env) (σ:St) (b:Bool) (Q:Bool->Hp->Prop),RS K ct F0 B ms F H ρ σ->f ρ=some b ->
  (∀F' H',iU F H F' H'->Q b H')->t σ H Q:=by
 refine⟨λσ H Q=>∀i,(h i).choose σ H Q,λi bH s σ H Q I q=>(h i).choose_spec.1 bH s σ H Q I (q i),λF0 B F H ρ σ d Q rs e w i=>?_⟩
 exact(h i).choose_spec.2 F0 B F H ρ σ d Q (by rw[hK i];exact rs) e w
noncomputable def AC (g:α->St->Hp->(St->Hp->Prop)->Prop):Prop:=∀v σ H Q Q',(∀σ' H',Q σ' H'->Q' σ' H')->g v σ H Q->g v σ H Q'
noncomputable def xS (X:Cx)(ct:Nat->bI)(ms:List Mo)(own n:Nat)(tg:Expr)(g:D->Env->Option Env):Prop:=∃t,PG X tg t/\iN own t/\AC t/\∀(F0 B F H:Hp) (ρ ρ':Env) (σ:St) (d:D) (v:V) (Q:St->Hp->Prop),RS X.K ct F0 B ms F H ρ σ->Al X.K ct F B n d v->g d ρ=some ρ' ->
 (∀σ',RS X.K ct F0 B ms F H ρ' σ'->Q σ' H)->t v σ H Q
theorem UT {Xs:ι->Cx}{g:D->Env->Option Env}(hK:∀i,(Xs i).K=K)(h:∀i,xS (Xs i) ct ms own n tg g):∃t,(∀i,PG (Xs i) tg t)/\iN own t/\∀(F0 B F H:Hp) (ρ ρ':Env) (σ:St) (d:D) (v:V) (Q:St->Hp->Prop),RS K ct F0 B ms F H ρ σ->Al K ct F B n d v->g d ρ=some ρ' ->
  (∀σ',RS K ct F0 B ms F H ρ' σ'->Q σ' H)->t v σ H Q:=by
 refine⟨λv σ H Q=>∀i,(h i).choose v σ H Q,λi bH s σ H v u Q I r q=>(h i).choose_spec.1 bH s σ H v u Q I r (q i),λv σ H Q q i=>(h i).choose_spec.2.1 v σ H Q (q i),λF0 B F H ρ ρ' σ d v Q rs l e w i=>?_⟩
 exact(h i).choose_spec.2.2.2 F0 B F H ρ ρ' σ d v Q (by rw[hK i];exact rs) (by rw[hK i];exact l) e λσ' r=>w σ' (by rw[←hK i];exact r)
theorem QL (ho:i<own)(hm:ms[i]?=some (.ow 0))(hN:X.N.Nodup)(hi:X.N[i]?=some x)(hx:Loc X.env.scope x)
  (hf:X.fn x=true\/X.env.scope.names.lookup x=some .local:=by first|exact .inl rfl|exact .inr rfl|assumption):xS X ct ms own 0 (.Name x pos) (gV i):=by
 refine⟨_,KR hN hi hx hf,Pk i own ho,λv σ H Q Q' m q=>m _ _ q,λF0 B F H ρ ρ' σ d v Q rs l e w=>?_⟩
 cases e
 exact w _ (rs.set hm (.refl rs.fh) (Ow.zero l) cQ λa z=>(by cases z))
noncomputable def Bc (own:Nat)(g:Ak):Prop:=∀v σ H Q,g v σ H Q->g v σ H λσ' H'=>Q σ' H'/\σ'.length = σ.length/\∀i,own<=i->σ'[i]? = σ[i]?
noncomputable def yL (X:Cx)(ct:Nat->bI)(ms:List Mo)(own n:Nat)(oi:List Expr)(g:List D->Env->Option Env):Prop:=∃t,BA X oi t/\Bc own t/\AC t/\(∀ds ρ ρ',g ds ρ=some ρ'->ds.length=oi.length)/\∀(F0 B F H:Hp) (ρ ρ':Env) (σ:St) (ds:List D) (vs:List V) (Q:St->Hp->Prop),RS X.K ct F0 B ms F H ρ σ->Pr (Al X.K ct F B n) ds vs->g ds ρ=some ρ' ->
 (∀σ',RS X.K ct F0 B ms F H ρ' σ'->Q σ' H)->t vs σ H Q
theorem Hh:yL X ct ms own n [] gsNil:=by
 refine⟨_,KS,λv σ H Q q=>⟨q.1,q.2,rfl,λ_ _=>rfl⟩,λv σ H Q Q' m q=>⟨q.1,m _ _ q.2⟩,λds ρ ρ' e=>?_,λF0 B F H ρ ρ' σ ds vs Q rs l e w=>?_⟩
 ·cases ds with
  |nil=>rfl
  |cons d ds=>cases e
 ·cases l with
  |nil=>cases e;exact⟨rfl,w σ rs⟩
  |cons _ _=>cases e
theorem xp (h1:xS X ct ms own n tg gg)(h2:yL X ct ms own n oi gs)
  (hs:(eu (tg::oi) X.env).map (·.2)=kO tg X.env::(eu oi X.env).map (·.2):=by rfl):yL X ct ms own n (tg::oi) (gsCons gg gs):=by
 obtain⟨t,pt,kt,mt,qt⟩:=h1
 obtain⟨t2,nh,NQ,Jj,Bd,pY⟩:=h2
 refine⟨_,Ks pt nh hs,λvs σ H Q q=>?_,λvs σ H Q Q' m q=>?_,λds ρ ρ' e=>?_,λF0 B F H ρ ρ' σ ds vs Q rs l e w=>?_⟩
 ·obtain⟨v,r,e,q⟩:=q
  refine⟨v,r,e,mt _ _ _ _ _ (λσ' H' z=>?_) (kt v σ H _ q)⟩
  obtain⟨z1,z2,z3⟩:=z
  refine Jj _ _ _ _ _ (λσ2 H2 y=>?_) (NQ r σ' H' Q z1)
  exact⟨y.1,y.2.1.trans z2,λi hi=>(y.2.2 i hi).trans (z3 i hi)⟩
 ·obtain⟨v,r,e,q⟩:=q
  exact⟨v,r,e,mt _ _ _ _ _ (λσ' H' z=>Jj _ _ _ _ _ m z) q⟩
 ·cases ds with
  |nil=>cases e
  |cons d ds=>
   obtain⟨ρ1,h3,h4⟩:=ck e
   rw[bM,bM,Bd _ _ _ h4]
 ·cases l with
  |nil=>cases e
  |cons h t'=>
   obtain⟨ρ1,h3,h4⟩:=ck e
   exact⟨_,_,rfl,qt F0 B F H ρ ρ1 σ _ _ _ rs h h3 λσ1 r1=>pY F0 B F H ρ1 ρ' σ1 _ _ _ r1 t' h4 w⟩
theorem HI (hc:X.calm=true)(h:yL X ct ms own (n-1) oi gs)(hl:(eu oi X.env).length=oi.length:=by rfl)(mj:(eu oi X.env).findIdx? (·.1)=none:=by rfl):xS X ct ms own n (.Tuple oi j pos) (gT gs):=by
 obtain⟨t,pt,kt,mt,lt,qt⟩:=h
 refine⟨_,Lv (n:=oi.length) hc pt hl mj,λv σ H Q q=>?_,λv σ H Q Q' m q=>?_,λF0 B F H ρ ρ' σ d v Q rs l e w=>?_⟩
 ·obtain⟨a,xs,e,h1,h2,q⟩:=q
  exact⟨a,xs,e,h1,h2,kt _ _ _ _ q⟩
 ·obtain⟨a,xs,e,h1,h2,q⟩:=q
  exact⟨a,xs,e,h1,h2,mt _ _ _ _ _ m q⟩
 cases d with
 |tup ds=>
  have:∃a vs,v=.ref a/\lN X.K H a vs/\Pr (Al X.K ct F B (n-1)) ds vs:=by
   cases n with
   |zero=>
    have l:Dt X.K ct F (.tup ds) v:=l
    cases l with
    |tup q t=>exact⟨_,_,rfl,lN.of (rs.fh _ _ q),t.pr⟩
   |succ n=>
    rcases l with l|l
    ·cases l with
     |tup q t=>exact⟨_,_,rfl,lN.of (rs.fh _ _ q),t.pr.mono λ_ _=>Al.of⟩
    ·cases l with
     |tup q t=>exact⟨_,_,rfl,lN.of (rs.fh _ _ q),t⟩
  obtain⟨a,vs,rfl,ha,hp⟩:=this
  exact⟨a,vs,rfl,ha,hp.length.symm.trans (lt _ _ _ e),qt F0 B F H ρ ρ' σ ds vs Q rs hp e w⟩
 |_=>cases e
noncomputable def m6 (ρ:Env)(cap:List Nat):Env:=cap.map λi=>(ρ[i]?).join
noncomputable def iI (ms:List Mo)(cap:List Nat):List Mo:=cap.map λi=>.al (((ms[i]?).map Mo.lv).getD 0)
noncomputable def qI (g:D->Env->Option Env)(p:BF)(f:EF)(ρ0:Env):List D->Option (List D)
 |[]=>some []
 |d::ds=>(g d ρ0).bind λρ1=>(p ρ1).bind λb=>if b=true then(f ρ1).bind λy=>(qI g p f ρ0 ds).bind λys=>some (y::ys)else qI g p f ρ0 ds
noncomputable def gK (fi:Env->Option (List D))(own:Nat)(cap:List Nat)(g:D->Env->Option Env)(p:BF)(f:EF):EF:=λρ=>(fi ρ).bind λds=>if ds.length<=16777216 then(qI g p f (bQ own none++m6 ρ cap) ds).bind λys=>some (.lst ys)else none
theorem SL.caps {F B H:Hp}{ms:List Mo}{ρ:Env}{σ:St}(rs:RS K ct F0 B ms F H ρ σ):∀{cap:List Nat},(∀i∈cap,i<ms.length)->SL K ct F H H (iI ms cap) (m6 ρ cap) (jQ σ cap) []
 |[],_=>.nil
 |i::cap,h=>by
  have ih:=SL.caps rs (cap:=cap) λj hj=>h j (bJ _ hj)
  have hi:i<ms.length:=h i bF
  have hm:ms[i]?=some ms[i]:=by simp[hi]
  show SL K ct F H H (.al (((ms[i]?).map Mo.lv).getD 0)::iI ms cap) ((ρ[i]?).join::m6 ρ cap) ((σ[i]?).join::jQ σ cap) []
  cases e:(ρ[i]?).join with
  |none=>exact .no ih
  |some d=>
   obtain⟨v,hv,l⟩:=rs.get hm (zt e)
   rw[hv,hm]
   exact .al l ih
theorem SL.nones {F B H:Hp}{ms GC:List Mo}{ρ:Env}{σ:St}{fp:List bI}(t:SL K ct F B H ms ρ σ fp):∀{om:List Mo},SL K ct F B H (om++ms) (bQ om.length none ++ ρ) (bQ om.length none ++ σ) fp
 |[]=>t
 |m::om=>.no (SL.nones (GC:=GC) t)
theorem Kz {pos:mZ}{c:Prop}
  (B:mD X scope N own cap) (hc:c) (ho:om.length=own) (oX:∀i∈cap,i<ms.length) (hi:AQ X c ct ms n tg iter fi)
  (hg:∀cl C fp s₀ H₀,xS (lC X scope cl N C fp s₀ H₀) ct (om++iI ms cap) own n tg gg) (ht:∀cl C fp s₀ H₀,Ap (lC X scope cl N C fp s₀ H₀) ct (om++iI ms cap) ifs p) (he:∀cl C fp s₀ H₀,XO (lC X scope cl N C fp s₀ H₀) ct (om++iI ms cap) k mV f)
  :
  ∃wi g tt te,Cc X c tg iter wi/\iN own g/\(∀cl C fp s₀ H₀,PG (lC X scope cl N C fp s₀ H₀) tg g)/\(∀cl C fp s₀ H₀,Aj (lC X scope cl N C fp s₀ H₀) ifs tt)/\(∀cl C fp s₀ H₀,PE (lC X scope cl N C fp s₀ H₀) mV te) /\
   ∀(F0 B F H:Hp) (ρ:Env) (σ:St) (d:D) (Q:VK),RS X.K ct F0 B ms F H ρ σ->gK fi own cap gg p f ρ=some d->(∀v F' H' fp,iU F H F' H'->Ow X.K ct F' H' (k+1) d v fp->fp.Nodup->(∀a∈fp,H a=none)->Q v H')->uM wi own cap g tt te σ H Q:=by
 obtain⟨wi,pi,qi⟩:=hi
 obtain⟨Jv,pg,kg,qg⟩:=UT (K:=X.K) (Xs:=λz:List (Str×bI)×bI×List bI×bP×Hp=>lC X scope z.1 N z.2.1 z.2.2.1 z.2.2.2.1 z.2.2.2.2) (λ_=>rfl) (λz=>hg z.1 z.2.1 z.2.2.1 z.2.2.2.1 z.2.2.2.2)
 obtain⟨tt,pt,qt⟩:=US (K:=X.K) (Xs:=λz:List (Str×bI)×bI×List bI×bP×Hp=>lC X scope z.1 N z.2.1 z.2.2.1 z.2.2.2.1 z.2.2.2.2) (λ_=>rfl) (λz=>ht z.1 z.2.1 z.2.2.1 z.2.2.2.1 z.2.2.2.2)
 obtain⟨te,pe,qe⟩:=UR (K:=X.K) (Xs:=λz:List (Str×bI)×bI×List bI×bP×Hp=>lC X scope z.1 N z.2.1 z.2.2.1 z.2.2.2.1 z.2.2.2.2) (λ_=>rfl) (λz=>he z.1 z.2.1 z.2.2.1 z.2.2.2.1 z.2.2.2.2)
 refine⟨wi,Jv,tt,te,pi,kg,(λcl C fp s₀ H₀=>pg (cl,C,fp,s₀,H₀)),(λcl C fp s₀ H₀=>pt (cl,C,fp,s₀,H₀)),(λcl C fp s₀ H₀=>pe (cl,C,fp,s₀,H₀)),λF0 B F H ρ σ r Q rs e w=>?_⟩
 obtain⟨ds,h1,h2⟩:=ck e
 by_cases hz:ds.length<=16777216
 case neg=>rw[if_neg hz]at h2;cases h2
 rw[if_pos hz]at h2
 obtain⟨ys,h3,h4⟩:=ck h2
 cases h4
 refine qi F0 B F H ρ σ ds _ rs h1 λJ F1 H1 x1 ok A hA=>?_
 have pA:=rs.ext x1
 refine⟨λi m us H2=>m=ds.length-i/\i<=ds.length/\us.length<=i/\H2 A=some (.lst us)/\∃F2 yd zd fp,iU F1 H1 F2 H2/\F2 A=none/\ie (Ow X.K ct F2 H2 k) yd us fp/\fp.Nodup/\(∀a∈fp,H1 a=none/\a≠A)/\qI gg p f (bQ own none++m6 ρ cap) (ds.drop i)=some zd/\yd++zd=ys,
  ⟨ds.length,rfl,eY _,bY _,zw,F1,[],ys,[],iU.newO x1.fh hA _,x1.fh.free hA,.nil,cQ,λa z=>(by cases z),h3,rfl⟩,?_⟩
 rintro i m us H2 ⟨rfl,Nv,NJ,D3,F2,yd,zd,fp,x2,fA,ol,nd,hf,kJ,Ea⟩
 refine⟨D3,?_⟩
 have N2:=pA.ext x2
 obtain⟨k1,k2⟩:=ok i F2 H2 x2.ff x2.hh x2.fh
 by_cases o7:i<ds.length
 ·right
  have hd:ds[i]?=some ds[i]:=by simp[o7]
  obtain⟨go,yl⟩:=k1 _ hd
  rw[qD o7]at kJ
  obtain⟨ρ1,h5,h6⟩:=ck kJ
  obtain⟨b,h7,h8⟩:=ck h6
  refine⟨go,by rw[el];omega,λx H3 y=>?_⟩
  obtain⟨F3,x3,l⟩:=yl x H3 y
  have N3:=N2.ext x3
  have sl:=SL.nones (GC:=[]) (SL.caps N3 oX) (om:=om)
  rw[ho]at sl
  have N4:RS X.K ct F3 H3 (om++iI ms cap) F3 H3 (bQ own none++m6 ρ cap) (bQ own none++jQ σ cap):=⟨.refl _,.refl _,x3.fh,λ_ _ _ _ h=>h,[],sl,cQ,λa z=>(by cases z)⟩
  have A3:H3 A=some (.lst us):=x3.hh _ _ D3
  have Ir:F3 A=none:=x3.nf A _ D3 nofun fA
  refine qg F3 H3 F3 H3 _ ρ1 _ _ x _ N4 (l.mono (.refl _) (x2.trans x3).hh) h5 λσ1 r1=>?_
  refine qt F3 H3 F3 H3 ρ1 σ1 b _ r1 h7 λF4 H4 x4=>?_
  cases b with
  |false=>
   rw[if_neg bV]at h8 ⊢
   have JC:=x3.trans x4
   refine⟨ds.length-(i+1),by omega,rfl,o7,by omega,x4.hh _ _ A3,F4,yd,zd,fp,x2.trans JC,x4.nf A _ A3 nofun Ir,ol.mono λ_ _ _ _ o=>o.ext JC,nd,hf,h8,Ea⟩
  |true=>
   rw[if_pos rfl]at h8 ⊢
   obtain⟨yv,h9,D1⟩:=ck h8
   obtain⟨zs,M6,D2⟩:=ck D1
   cases D2
   refine qe F3 H3 F4 H4 ρ1 σ1 yv _ (r1.ext x4) h9 λv F5 H5 f5 x5 o5 n5 FU=>?_
   have He:=(x3.trans x4).trans x5
   have JD:=x4.trans x5
   have A5:H5 A=some (.lst us):=JD.hh _ _ A3
   have Iu:F5 A=none:=JD.nf A _ A3 nofun Ir
   have A4:H4 A=some (.lst us):=x4.hh _ _ A3
   have IC:∀a∈f5,a≠A:=λa z e=>by rw[e]at z;rw[FU A z]at A4;cases A4
   refine⟨A5,ds.length-(i+1),by omega,rfl,o7,by rw[cv,sN];omega,zw,F5,yd++[yv],zs,fp++(f5++[]),?_,Iu,?_,?_,?_,M6,by rw[dz];exact Ea⟩
   ·have EG:=x2.trans He
    refine⟨EG.ff,λa o h=>?_,λa o h=>?_,EG.nf⟩
    ·rw[zp (zu h hA)];exact EG.hh _ _ h
    ·rw[zp (λz=>by rw[z]at h;rw[Iu]at h;cases h)];exact EG.fh _ _ h
   ·refine(ol.mono λ_ _ f Nr o=>?_).append (.cons ?_ .nil)
    ·refine(o.ext He).frame (.refl _) λa z=>⟨zp (hf a (Nr a z)).2,((o.ext He).cells a z).1⟩
    ·exact o5.frame (.refl _) λa z=>⟨zp (IC a z),(o5.cells a z).1⟩
   ·rw[cV]
    refine cI.mpr ⟨nd,n5,λa z c hc e=>?_⟩
    subst e
    have:∃o,H2 a=some o:=let⟨o,h,_⟩:=(ie.cellsOf ol a z).2;⟨o,h⟩
    obtain⟨o,ho⟩:=this
    have:=x4.hh _ _ (x3.hh _ _ ho)
    rw[FU a hc]at this
    cases this
   ·intro a z
    rw[cV]at z
    rcases cL.mp z with z|z
    ·exact hf a z
    ·refine⟨?_,IC a z⟩
     have Ou:=x2.trans (x3.trans x4)
     exact Ou.hh.free (FU a z)
 ·left
  refine⟨k2 (by omega),?_⟩
  have:ds.drop i=[]:=rP (by omega)
  rw[this]at kJ
  cases kJ
  rw[cV]at Ea
  subst Ea
  refine w _ F2 H2 (A::fp) (x1.trans x2) (.inr (.lst fA D3 ol)) (cX.mpr ⟨λz=>(hf A z).2 rfl,nd⟩) λa z=>?_
  rcases bL.mp z with rfl|z
  ·exact x1.hh.free hA
  ·exact x1.hh.free (hf a z).1
theorem R9 {c:Prop}
  (B:mD X scope N own cap) (hc:c) (ho:om.length=own) (oX:∀i∈cap,i<ms.length) (hi:AQ X c ct ms n tg iter fi)
  (hg:∀cl C fp s₀ H₀,xS (lC X scope cl N C fp s₀ H₀) ct (om++iI ms cap) own n tg gg) (ht:∀cl C fp s₀ H₀,Ap (lC X scope cl N C fp s₀ H₀) ct (om++iI ms cap) ifs p) (he:∀cl C fp s₀ H₀,XO (lC X scope cl N C fp s₀ H₀) ct (om++iI ms cap) k mV f)
  (hs:∀x,ed iter X.env x=pure x:=by intro _;rfl):XO X ct ms (k+1) (.ListComp mV [⟨tg,iter,ifs,0⟩] scope pos) (gK fi own cap gg p f):=by
 obtain⟨wi,g,tt,te,pi,kg,pg,pt,pe,q⟩:=Kz (k:=k) (pos:=pos) B hc ho oX hi hg ht he
 exact⟨_,RI B hc pi kg pg pt pe hs,q⟩
variable {oA:List Expr}{pt:mZ}
noncomputable def Aq:D->Option (List D)
 |.lst ds=>some ds
 |_=>none
theorem Hi (h:Aq d=some ds):d=.lst ds:=by cases d<;>simp[Aq]at h;subst h;rfl
noncomputable def lsD (f:EF):Env->Option (List D):=λρ=>(f ρ).bind Aq
theorem LQ {G:Hp}{a:bI}{vs:List V}(hp:Pr (Al K ct F B n) ds vs)(keep:∀F' H',cR F F'->cR B H'->cR F' H'->gp K H' a vs):uW K ct F B n (Fk K a) ds:=by
 intro i F' H' s1 s2 s3
 have hs:gp K H' a vs:=keep F' H' s1 s2 s3
 refine⟨λd hd=>?_,λhl=>⟨vs,hs,by rw[←hp.length];exact hl⟩⟩
 obtain⟨v,hv,l⟩:=hp.get' hd
 refine⟨⟨vs,v,hs,hv⟩,λx H2 y=>?_⟩
 obtain⟨e,y⟩:=y
 subst e
 have:=y vs hs
 rw[hv]at this
 cases this
 exact⟨F',.refl s3,l.mono s1 (.refl _)⟩
theorem Dt.lst_inv {v:V}(h:Dt K ct F (.lst ds) v):∃a vs,v=.ref a/\gp K F a vs/\Dts K ct F ds vs:=by
 cases h with
 |lst q t=>exact⟨_,_,rfl,q,t⟩
theorem EN (he:XE X ct ms 0 e f):XI X ct ms 0 tg e (lsD f):=by
 obtain⟨t,pt,qt⟩:=he
 refine⟨_,KU pt,λF0 B F H ρ σ ds R rs e w=>?_⟩
 obtain⟨d,h1,h2⟩:=ck e
 rw[Hi h2]at h1
 refine qt F0 B F H ρ σ _ _ rs h1 λv F' H' x l=>?_
 obtain⟨a,vs,rfl,ha,hp⟩:=Dt.lst_inv l
 exact⟨a,rfl,⟨vs,x.fh.seq ha⟩,w _ F' H' x (LQ (G:=H') (n:=0) (hp.pr) λF2 H2 s1 s2 s3=>s3.seq (s1.seq ha))⟩
theorem wu (he:XE X ct ms n e f):An X ct ms (n-1) tg e (lsD f):=by
 obtain⟨t,pt,qt⟩:=he
 refine⟨_,KU pt,λF0 B F H ρ σ ds R rs e w=>?_⟩
 obtain⟨d,h1,h2⟩:=ck e
 rw[Hi h2]at h1
 refine qt F0 B F H ρ σ _ _ rs h1 λv F' H' x l=>?_
 obtain⟨a,vs,rfl,ha,hp⟩:=l.lst x.fh
 exact⟨a,rfl,⟨vs,ha⟩,w _ F' H' x (LQ (G:=H') hp λF2 H2 s1 s2 s3=>s2.seq ha)⟩
theorem XI.cc (h:XI X ct ms n tg e fi):An X ct ms n tg e fi:=by
 obtain⟨t,pt,qt⟩:=h
 refine⟨t,pt,λF0 B F H ρ σ ds R rs e w=>qt F0 B F H ρ σ ds R rs e λJ F' H' x ok=>w J F' H' x λi F2 H2 s1 s2 s3=>?_⟩
 obtain⟨k1,k2⟩:=ok i F2 H2 s1 ((rs.ext x).bh.trans s2) s3
 refine⟨λd hd=>?_,k2⟩
 obtain⟨go,yl⟩:=k1 d hd
 refine⟨go,λv H3 y=>?_⟩
 obtain⟨F3,x3,l⟩:=yl v H3 y
 exact⟨F3,x3,l.mono (.refl _) (rs.ext x).bh⟩
noncomputable def oH (lo:Int)(j:Nat):List D:=(cC j).map λ(t:Nat)=>.int (lo+(t:Int))
noncomputable def pz:List D->Option (List D)
 |[.int j]=>if -4611686018427387904<=j/\j<4611686018427387904 then some (oH 0 j.toNat)else none
 |_=>none
theorem Ub {lo:Int}:uW K ct F B n (DS lo j) (oH lo j):=by
 intro i F' H' s1 s2 s3
 unfold oH
 refine⟨λd hd=>?_,λhl=>(show j<=i by simpa using hl)⟩
 rw[c9]at hd
 by_cases h:i<j
 ·rw[t4 h]at hd
  cases hd
  refine⟨h,λx H2 y=>?_⟩
  obtain⟨e,y⟩:=y
  subst e
  subst y
  exact⟨F',.refl s3,Al.of (.int _)⟩
 ·rw[sM (by simpa using h)]at hd
  cases hd
theorem wm (hm:X.mg "range"=none)(ha:XA X ct ms [a] [m] fs)(hg:Gl X "range":=by rfl)(hs:bK [a] X.env=[(false,cO a X.env)]:=by rfl):XI X ct ms n tg (.Call (.Name "range" pp) [a] [] pos) (λρ=>(fs ρ).bind pz):=by
 obtain⟨t,pt,_,qt⟩:=ha
 refine⟨_,O9 hg hm pt hs,λF0 B F H ρ σ ds R rs e w=>?_⟩
 obtain⟨sR,h1,h2⟩:=ck e
 refine qt F0 B F H ρ σ _ _ rs h1 λvs F' H' x l=>?_
 cases l with
 |cons h t=>
  cases t
  rename_i d v
  cases d with
  |int j=>
   unfold pz at h2
   dsimp only at h2
   by_cases hj:-4611686018427387904<=j/\j<4611686018427387904
   ·rw[if_pos hj]at h2
    cases h2
    exact⟨j,by rw[h.int],by omega,by omega,w _ F' H' x Ub⟩
   ·rw[if_neg hj]at h2;cases h2
  |_=>cases h2
noncomputable def lS (i:Nat):List D->List D
 |[]=>[]
 |d::ds=>.tup [.int i,d]::lS (i+1) ds
theorem qh:∀{ds:List D} {j i:Nat} {d:D},(lS j ds)[i]?=some d->∃x,ds[i]?=some x/\d=.tup [.int (j+i:Nat),x]
 |[],_,_,_,h=>by simp[lS]at h
 |x::ds,j,0,d,h=>by simp[lS]at h;subst h;exact⟨x,rfl,rfl⟩
 |x::ds,j,i+1,d,h=>by
  obtain⟨y,h1,h2⟩:=qh (ds:=ds) (j:=j+1) (i:=i) (d:=d) (by simpa[lS]using h)
  exact⟨y,by simpa using h1,by rw[h2,Nat.add_assoc,Nat.add_comm 1 i]⟩
theorem J4:∀{ds:List D} {j:Nat},(lS j ds).length=ds.length
 |[],_=>rfl
 |_::ds,j=>by simp[lS,J4 (ds:=ds)]
theorem Uc {a:bI}{vs:List V}(hp:Pr (Al K ct F B n) ds vs)(keep:∀F' H',cR F F'->cR B H'->cR F' H'->gp K H' a vs):uW K ct F B (n+1) (Fj K a) (lS 0 ds):=by
 intro i F' H' s1 s2 s3
 have hs:gp K H' a vs:=keep F' H' s1 s2 s3
 refine⟨λd hd=>?_,λhl=>⟨vs,hs,by rw[←hp.length];rw[J4]at hl;exact hl⟩⟩
 obtain⟨x,hx,rfl⟩:=qh hd
 obtain⟨v,hv,l⟩:=hp.get' hx
 refine⟨⟨vs,v,hs,hv⟩,λz H2 y=>?_⟩
 obtain⟨r,y',hr,rfl,rfl,y⟩:=y
 have:=y vs hs
 rw[hv]at this
 cases this
 refine⟨_,iU.newS s3 hr _,.inr (.tup zw (.cons (Al.of ?_) (.cons (l.mono (s1.trans (xf (s3.free hr) _)) (.refl _)) .nil)))⟩
 rw[Nat.zero_add]
 exact .int _
theorem Sa {kt:Nat}(hm:X.mg "enumerate"=none)(ha:XA X ct ms [a] [0] fs)(hg:Gl X "enumerate":=by rfl)(hs:bK [a] X.env=[(false,cO a X.env)]:=by rfl) :
  XI X ct ms 1 (.Tuple oA kt pt) (.Call (.Name "enumerate" pp) [a] [] pos) (λρ=>(fs ρ).bind λds=>match ds with|[.lst xs]=>some (lS 0 xs)|_=>none):=by
 obtain⟨t,pt,_,qt⟩:=ha
 refine⟨_,RJ hg hm pt hs,λF0 B F H ρ σ ds R rs e w=>?_⟩
 obtain⟨sR,h1,h2⟩:=ck e
 refine qt F0 B F H ρ σ _ _ rs h1 λvs F' H' x l=>?_
 cases l with
 |cons h t=>
  cases t
  rename_i d v
  cases d with
  |lst xs=>
   cases h2
   obtain⟨a,vs,rfl,ha,hp⟩:=Dt.lst_inv h
   exact⟨a,rfl,⟨vs,x.fh.seq ha⟩,w _ F' H' x (Uc (n:=0) hp.pr λF2 H2 s1 s2 s3=>s3.seq (s1.seq ha))⟩
  |_=>cases h2
variable {gE p1 mQ:mZ}{fj:EF}
theorem Ow.lst_inv {v:V}(h:Ow K ct F H (k+1) (.lst ds) v fp):∃a vs fr,v=.ref a/\fp=a::fr/\F a=none/\H a=some (.lst vs)/\ie (Ow K ct F H k) ds vs fr:=by
 rcases h with⟨h,_⟩|h
 ·cases h
 ·cases h with
  |lst h1 h2 h3=>exact⟨_,_,_,rfl,rfl,h1,h2,h3⟩
theorem Ow.dK_inv {v:V}(h:Ow K ct F H (k+1) (.dK ks ds) v fp):∃a vs fr,v=.ref a/\fp=a::fr/\F a=none/\H a=some (.dK (ks.zip vs))/\ks.length=vs.length/\ie (Ow K ct F H k) ds vs fr:=by
 rcases h with⟨h,_⟩|h
 ·cases h
 ·cases h with
  |dK h1 h2 h3 h4=>exact⟨_,_,_,rfl,rfl,h1,h2,h3,h4⟩
theorem Ow.dT_inv {ks:List (List gN)}{v:V}(h:Ow K ct F H (k+1) (.dT ks ds) v fp):∃a vs fr,v=.ref a/\fp=a::fr/\F a=none/\H a=some (.dT (ks.zip vs))/\ks.length=vs.length/\ie (Ow K ct F H k) ds vs fr:=by
 rcases h with⟨h,_⟩|h
 ·cases h
 ·cases h with
  |dT h1 h2 h3 h4=>exact⟨_,_,_,rfl,rfl,h1,h2,h3,h4⟩
theorem RS.change {d':D}{v:V}{f1 fr fn:List bI}{ad:bI}{o:HO}(rs:RS K ct F0 B ms F H ρ σ)(hm:ms[i]?=some (.ow k))(x:iU F H F' H')
  (hσ:σ[i]?=some (some v)) (b1:∀a∈f1,B a=none) (dj:∀a∈f1,a∉fr) (cf:∀a∈fr,F a=none/\∃o,H a=some o/\lB o)
  (put:∀(F' H':Hp) (d':D) (v':V) (f':List bI),cR F F'->cR B H'->cR F' H'->(∀a o,B a=some o->lB o->F0 a=none->F' a=none)->(∀a∈fr,H' a=H a/\F' a=none)->Ow K ct F' H' k d' v' f'->f'.Nodup->(∀a∈f',a∉fr)->(∀a∈f',B a=none) ->
    RS K ct F0 B ms F' H' (ρ.set i (some d')) (σ.set i (some v')))
  (IG:ad∈f1) (M0:F' ad=none) (o':Ow K ct F' (fM H' ad o) k d' v fn) (nd:fn.Nodup) (BJ:∀a∈fn,a∈f1\/H a=none):RS K ct F0 B ms F' (fM H' ad o) (ρ.set i (some d')) σ:=by
 have r:=rs.ext x
 have hB:B ad=none:=b1 ad IG
 have res:=put F' (fM H' ad o) d' v fn x.ff (λz u h=>by rw[zp (λe=>by rw[e,hB]at h;cases h)];exact r.bh _ _ h) (λz u h=>by rw[zp (λe=>by rw[e,M0]at h;cases h)];exact x.fh _ _ h) r.nf
  (λz hz=>by
   obtain⟨hn,o,ho,nt⟩:=cf z hz
   refine⟨?_,x.nf z o ho nt hn⟩
   have ne:z≠ad:=λe=>dj ad IG (by rw[←e];exact hz)
   rw[zp ne]
   exact(x.hh _ _ ho).trans ho.symm) o' nd
  (λz hz zr=>by
   rcases BJ z hz with h|h
   ·exact dj z h zr
   ·obtain⟨_,o,ho,nt⟩:=cf z zr
    rw[h]at ho
    cases ho)
  (λz hz=>(BJ z hz).elim (b1 z) λh=>rs.bh.free h)
 have e:σ.set i (some v) = σ:=by
  apply nF
  intro j
  by_cases hj:i=j
  ·subst hj
   rw[lx (by
    have:=cB.mp hσ
    exact this.1),hσ]
  ·rw[i8 hj]
 rw[e]at res
 exact res
noncomputable def sApp (i:Nat)(f:EF):SF:=λρ=>(eV i ρ).bind λo=>(f ρ).bind λd=>match o with
 |.lst ds=>if ds.length<16777216 then some (.nx (ρ.set i (some (.lst (ds++[d])))))else none
 |_=>none
theorem ul (i:Nat)(hm:ms[i]?=some (.ow (k+1)))(he:XO X ct ms k e f)(hN:X.N[i]?=some x:=by rfl)(hv:rY X.env.scope x:=by first|exact Or.inl rfl|exact Or.inr (Or.inl rfl)|exact Or.inr (Or.inr rfl))(hd:(x==("__debug__":Str))=false:=by decide)
  (kJ:(x==("__classdict__":Str))=false:=by decide) (mj:bK [e] X.env=(false,cO e X.env)::bK [] X.env:=by rfl)
  (m7:fB (.Name x p1) "append" X.env (cO (.Name x p1) X.env)=cO (.Name x p1) X.env:=by rfl)
  (qU:((dq gE (bK [e] X.env)).all (λx=>!x.1)&&(gk gE (ek [] X.env)).all (λx=>x.1.isSome)
   && decide ([e].length+([]:List lz).length+(if([]:List lz).isEmpty then 0 else 1)<30))=true:=by rfl)
  (m8:(fT.endLine==gE.line)=true:=by rfl) (kX:(dq gE (bK [] X.env)).any (·.1)=false:=by rfl)
  (yV:eI (.Call (.Attribute (.Name x p1) "append" fT) [e] [] gE) none pos.line X.env=pure false:=by rfl) :
  XS X ct ms rk (.Expr (.Call (.Attribute (.Name x p1) "append" fT) [e] [] gE) pos) (sApp i f):=by
 obtain⟨t,pt,qt⟩:=he
 refine⟨_,HE (Fc PySem.F.plainAttrs_list PySem.F.slot_list_append PySem.F.type_list_append J1 (wj hN hv hd kJ) (yw pt ug mj) m7 qU m8 mj kX) yV,λF0 B F H ρ σ o E rs e z=>?_⟩
 obtain⟨d1,d2,h1,h2,h3⟩:=eM e
 obtain⟨f1,fr,n1,b1,dj,i4,cf,put⟩:=rs.put (F':=F) (H':=H) hm
 obtain⟨v,hσ,ow⟩:=i4 d1 (zt h1)
 refine⟨v,hσ,?_⟩
 cases d1 with
 |lst ds=>
  dsimp only at h3
  by_cases hz:ds.length<16777216
  ·rw[if_pos hz]at h3
   cases h3
   obtain⟨ad,vs,Cj,rfl,rfl,hF,hH,ol⟩:=ow.lst_inv
   refine⟨.inl ⟨rfl,_,gp.of hH⟩,qt F0 B F H ρ σ d2 _ rs h2 λv2 F' H' fp x1 o2 NU FT=>?_⟩
   have hA:H' ad=some (.lst vs):=x1.hh _ _ hH
   have fA:F' ad=none:=x1.nf ad _ hH nofun hF
   have nA:∀a∈fp,a≠ad:=λa hz e=>by rw[e]at hz;rw[FT ad hz]at hH;cases hH
   have GD:=cX.mp n1
   refine⟨ad,vs,v2,rfl,rfl,hA,by rw[←ol.length,el];exact hz,?_⟩
   refine z σ F' _ (rs.change hm x1 hσ b1 dj cf put bF fA (.inr (.lst fA zw ((ol.mono λ_ _ f' hi o'=>?_).append (.cons (f:=fp) ?_ .nil)))) (fn:=ad::(Cj++(fp++[]))) ?_ ?_)
   ·refine(o'.ext x1).frame (.refl _) λa ha=>⟨zp λe=>GD.1 (e▸hi a ha),((o'.ext x1).cells a ha).1⟩
   ·exact o2.frame (.refl _) λa ha=>⟨zp (nA a ha),(o2.cells a ha).1⟩
   ·rw[cV]
    refine cX.mpr ⟨λhz=>?_,cI.mpr ⟨GD.2,NU,λa ha b hb e=>?_⟩⟩
    ·rcases cL.mp hz with hz|hz
     ·exact GD.1 hz
     ·exact nA ad hz rfl
    ·subst e
     obtain⟨_,o,ho,_⟩:=ie.cellsOf ol a ha
     rw[FT a hb]at ho
     cases ho
   ·intro a ha
    rw[cV]at ha
    rcases bL.mp ha with rfl|ha
    ·exact .inl bF
    ·rcases cL.mp ha with ha|ha
     ·exact .inl (bJ _ ha)
     ·exact .inr (FT a ha)
  ·rw[if_neg hz]at h3;cases h3
 |_=>cases h3
noncomputable def pH (ds:List D)(i:Int)(d:D):Option (List D):=(ixN ds.length i).bind λj=>some (ds.set j d)
noncomputable def lq [DecidableEq κ](ks:List κ)(ds:List D)(k:κ)(d:D):List κ×List D:=if ks.contains k=true then(ks,(ks.zip ds).map λp=>if p.1=k then d else p.2)else(ks++[k],ds++[d])
noncomputable def si (i:Nat)(fj f:EF):SF:=λρ=>(f ρ).bind λd=>(eV i ρ).bind λo=>(fj ρ).bind λj=>match o,j with
 |.lst ds,.int z=>(pH ds z d).bind λsR=>some (.nx (ρ.set i (some (.lst sR))))
 |_,_=>none
theorem ie.set0 {R:D->V->List bI->Prop}{d:D}{v:V}(r:R d v [])(z:∀d v f,R d v f->f=[]):∀{ds:List D} {vs:List V} {fp:List bI} (i:Nat),ie R ds vs fp->ie R (ds.set i d) (vs.set i v) []
 |_,_,_,_,.nil=>.nil
 |_,_,_,0,.cons h t=>by
  have:=ie.cons (f:=[]) (g:=[]) r (ie.ofPr (t.pr λd v f _ q=>by have:=z _ _ _ q;subst this;exact q))
  exact this
 |_,_,_,i+1,.cons h t=>by
  have e:=z _ _ _ h
  subst e
  exact ie.cons (f:=[]) (g:=[]) h (ie.set0 r z i t)
theorem Ow.nil0 {v:V}(h:Ow K ct F H 0 d v fp):fp=[]:=h.2
theorem ie.nil0 {vs:List V}(h:ie (Ow K ct F H 0) ds vs fp):fp=[]:=by
 induction h with
 |nil=>rfl
 |cons h t ih=>rw[h.nil0,ih];rfl
theorem Sb (i:Nat){j:Expr}(hm:ms[i]?=some (.ow 1))(hj:XE X ct ms n j fj)(he:XE X ct ms 0 e f)(hN:X.N[i]?=some x:=by rfl)(hv:rY X.env.scope x:=by first|exact Or.inl rfl|exact Or.inr (Or.inl rfl)|exact Or.inr (Or.inr rfl))(hd:(x==("__debug__":Str))=false:=by decide)
  (kJ:(x==("__classdict__":Str))=false:=by decide)
  (ha:∀v,kO (.Subscript (.Name x p1) j mQ) X.env v=(do
   let ov ← gh [v] (cO (.Name x p1) X.env)
   let iv ← gh [v,ov] (cO j X.env)
   jO mQ
   gh [v,ov,iv] (rS ov iv v)
   release [v,ov,iv] []):=by intro _;rfl)
  (hs:lL [.Subscript (.Name x p1) j mQ] e pos.line X.env=pure false:=by rfl) (hw:lK [.Subscript (.Name x p1) j mQ] e X.env=pure none:=by rfl)
  (h1:(eu [.Subscript (.Name x p1) j mQ] X.env).map (·.2)=[kO (.Subscript (.Name x p1) j mQ) X.env]:=by rfl) :
  XS X ct ms rk (.Assign [.Subscript (.Name x p1) j mQ] e pos) (si i fj f):=by
 obtain⟨t,pt,qt⟩:=he
 obtain⟨tj,Dd,De⟩:=hj
 refine⟨_,Lw pt (SD (wj hN hv hd kJ) Dd Kw ha) hs hw h1,λF0 B F H ρ σ o E rs e z=>?_⟩
 obtain⟨d,g1,g2⟩:=ck e
 obtain⟨d1,Au,g3,g4,g5⟩:=eM g2
 refine qt F0 B F H ρ σ d _ rs g1 λv0 F1 H1 x1 l0=>?_
 have pA:=rs.ext x1
 obtain⟨f1,fr,n1,b1,dj,i4,cf,put⟩:=pA.put (F':=F) (H':=H) hm
 obtain⟨v,hσ,ow⟩:=i4 d1 (zt g3)
 refine⟨v,hσ,De F0 B F1 H1 ρ σ Au _ pA g4 λvj F2 H2 x2 lj=>?_⟩
 cases d1 with
 |lst ds=>
  cases Au with
  |int zi=>
   obtain⟨sR,g6,g7⟩:=ck g5
   cases g7
   obtain⟨jn,g8,g9⟩:=ck g6
   cases g9
   obtain⟨ad,vs,Cj,rfl,rfl,hF,hH,ol⟩:=ow.lst_inv
   have hA:H2 ad=some (.lst vs):=x2.hh _ _ hH
   have fA:F2 ad=none:=x2.nf ad _ hH nofun hF
   have e0:=ol.nil0
   subst e0
   refine⟨ad,vs,zi,jn,rfl,lj.int,hA,by rw[←ol.length];exact g8,?_⟩
   refine z σ F2 _ (pA.change hm x2 hσ b1 dj cf put bF fA (.inr (.lst fA zw (ie.set0 ⟨Dt.mono x2.ff l0,rfl⟩ (λ_ _ _ q=>q.2) jn (ol.mono λ_ _ _ _ q=>⟨q.1.mono x2.ff,q.2⟩)))) (fn:=[ad]) (by simp) ?_)
   intro a ha
   rw[cj]at ha
   subst ha
   exact .inl bF
  |_=>cases g5
 |_=>cases g5
variable {y:Str}
theorem Gz {bH:List (bI×gH)}{s:bP}{l:bI}{xs:List V}(I:Inv X bH σ H s)(hH:Rd H l (.lst xs)):xs.length<=sizeLine/\∃(df:List bC) (n:Nat),c8 xs df/\xs.length=df.length/\s.heap.get? l=some { cls:=.type "list",data:=.seq df.toArray n }:=by
  obtain⟨z,df,n,r,e⟩:=hH.ok I.hok
  exact⟨z,df,n,r,r.length,e⟩
noncomputable def AF (K:bG):R2:=λx y H Q=>∃l b xs zs,x=.ref l/\y=.ref b/\gp K H l xs/\gp K H b zs/\xs.length+zs.length<=sizeLine/\∀p,H p=none->Q (.ref p) (fM H p (.lst (xs++zs)))
theorem Sd:jC X (fH .Add) (AF X.K):=by
 intro bH s σ H x y v u Q I rx ry h
 obtain⟨l,b,xs,zs,rfl,rfl,hH,hB,hz,q⟩:=h
 cases rx
 cases ry
 obtain⟨df,r,⟨⟨cls,dd,data,sl⟩,n,e,c1,c2,c3⟩,z⟩:=I.list hH
 obtain⟨tN,r2,⟨⟨Fu,DY,data2,Et⟩,n2,e2,c4,c5,c6⟩,z2⟩:=I.list hB
 simp only at c1 c3 c4 c6
 subst c1 c3 c4 c6
 have hl:=r.length
 have mW:=r2.length
 refine vV ⟨_,e,rfl⟩ ⟨_,e2,rfl⟩ noFill_list_add seq_list_add PySem.F.slot_list_add PySem.F.entry_list_add (PySem.F.args_list_add_2 _ _) (list_addW l b df.toArray tN.toArray n n2 dd DY sl Et (by rw[cm,cm];omega)) ⟨e,e2,?_⟩
 have ea:df.toArray++tN.toArray=(df++tN).toArray:=by simp
 rw[ea]
 exact⟨.ref _,_,I.lnew (t':=s.toks) (r.append r2) (by rw[cv];omega),rfl,q _ I.fresh⟩
noncomputable def Df:R2:=λx y H Q=>∃i j,x=.str i/\y=.str j/\i.length+j.length<=sizeLine/\Q (.str (i++j)) H
noncomputable def zL (K:bG):R2:=λx y H Q=>sT (λi j=>.int (i+j)) x y H Q\/Df x y H Q\/AF K x y H Q\/AG K x y H Q
theorem Se:jC X (fH .Add) (zL X.K):=jC.or Ts (jC.or Pd (jC.or Sd Rz))
noncomputable def cP:D->D->Option D
 |.int i,.int j=>some (.int (i+j))
 |.str x,.str y=>if x.length+y.length<=16777216 then some (.str (x++y))else none
 |.lst xs,.lst ys=>if xs.length+ys.length<=16777216 then some (.lst (xs++ys))else none
 |.tup xs,.tup ys=>if xs.isEmpty=false/\ys.isEmpty=false/\xs.length+ys.length<=1000000 then some (.tup (xs++ys))else none
 |_,_=>none
theorem Pr.ow0 {vs:List V}(h:Pr (Al K ct F G 0) ds vs):ie (Ow K ct F H 0) ds vs []:=ie.ofPr (h.mono λ_ _ q=>⟨q,rfl⟩)
theorem Al.lst1 {v:V}(hn:n<=1)(h:Al K ct F G n (.lst ds) v)(s:cR F G):∃a vs,v=.ref a/\gp K G a vs/\Pr (Al K ct F G 0) ds vs:=by
 obtain⟨a,vs,e,h1,h2⟩:=h.lst s
 have:n-1=0:=by omega
 rw[this]at h2
 exact⟨a,vs,e,h1,h2⟩
theorem Al.tup1 {v:V}(hn:n<=1)(h:Al K ct F G n (.tup ds) v)(s:cR F G):∃a vs,v=.ref a/\G a=some (.tup vs)/\Pr (Al K ct F G 0) ds vs:=by
 obtain⟨a,vs,e,h1,h2⟩:=h.tup s
 have:n-1=0:=by omega
 rw[this]at h2
 exact⟨a,vs,e,h1,h2⟩
theorem v6 {vs:List V}{Q:VK}(s:cR F H)(hp:Pr (Al K ct F H 0) ds vs)(w:∀v F' H' fp,iU F H F' H'->Ow K ct F' H' 1 (.lst ds) v fp->fp.Nodup->(∀a∈fp,H a=none)->Q v H'):∀p,H p=none->Q (.ref p) (fM H p (.lst vs)):=λp h0=>by
 obtain⟨o,nd⟩:=KW s (hp.ow0 (H:=H)) h0
 exact w _ F _ [p] (iU.newO s h0 _) o (nd cQ) λa z=>by rw[cj]at z;subst z;exact h0
theorem Sf (hn:n<=1)(hm:m<=1):B8 K ct n m 1 (zL K) cP:=by
 intro F H x y d1 d2 d Q s l1 l2 e w
 have ws:∀d v,d.sc=true->Dt K ct F d v->(∀v F' H' fp,iU F H F' H'->Ow K ct F' H' 1 d v fp->fp.Nodup->(∀a∈fp,H a=none)->Q v H')->Q v H:=λd v hs hd w=>w v F H [] (.refl s) (Ow.scal hd hs) cQ λa z=>(by cases z)
 cases d1 with
 |int i=>
  cases d2 with
  |int j=>cases e;exact .inl ⟨i,j,l1.int,l2.int,ws _ _ rfl (.int _) w⟩
  |_=>cases e
 |str i=>
  cases d2 with
  |str j=>
   unfold cP at e
   dsimp only at e
   by_cases hz:i.length+j.length<=16777216
   ·rw[if_pos hz]at e
    cases e
    exact .inr (.inl ⟨i,j,l1.str,l2.str,by rw[el];exact hz,ws _ _ rfl (.str _) w⟩)
   ·rw[if_neg hz]at e;cases e
  |_=>cases e
 |lst xs=>
  cases d2 with
  |lst ys=>
   unfold cP at e
   dsimp only at e
   by_cases hz:xs.length+ys.length<=16777216
   ·rw[if_pos hz]at e
    cases e
    obtain⟨a,vs,rfl,ha,hp⟩:=Al.lst1 hn l1 s
    obtain⟨b,us,rfl,hb,hq⟩:=Al.lst1 hm l2 s
    exact .inr (.inr (.inl ⟨a,b,vs,us,rfl,rfl,ha,hb,by rw[←hp.length,←hq.length,el];exact hz,v6 s (hp.append hq) w⟩))
   ·rw[if_neg hz]at e;cases e
  |_=>cases e
 |tup xs=>
  cases d2 with
  |tup ys=>
   unfold cP at e
   dsimp only at e
   by_cases hz:xs.isEmpty=false/\ys.isEmpty=false/\xs.length+ys.length<=1000000
   ·rw[if_pos hz]at e
    cases e
    obtain⟨a,vs,rfl,ha,hp⟩:=Al.tup1 hn l1 s
    obtain⟨b,us,rfl,hb,hq⟩:=Al.tup1 hm l2 s
    have hl:=hp.length
    have mW:=hq.length
    have e1:vs≠[]:=λz=>by
     rw[z]at hl
     have:=rE.mp hl
     rw[this]at hz
     exact absurd hz.1 (by decide)
    have e2:us≠[]:=λz=>by
     rw[z]at mW
     have:=rE.mp mW
     rw[this]at hz
     exact absurd hz.2.1 (by decide)
    refine .inr (.inr (.inr ⟨a,b,vs,us,rfl,rfl,lN.of ha,lN.of hb,e1,by rw[←hl,←mW,el];omega,λz=>absurd z e2,λ_ p h0=>?_⟩))
    have x2:=iU.newS s h0 (.tup (vs++us))
    exact w _ _ _ [] x2 (.inr (.tup zw (ie.ofPr ((hp.append hq).mono λ_ _ q=>⟨Dt.mono x2.ff q,rfl⟩)))) cQ λa z=>(by cases z)
   ·rw[if_neg hz]at e;cases e
  |_=>cases e
 |_=>cases e
noncomputable def Dl:R2:=λx y H Q=>∃l k xs,x=.ref l/\y=.int k/\Rd H l (.lst xs)/\-(2 ^ 63)<=k/\k<2 ^ 63/\xs.length*k.toNat<=sizeLine /\
 ∀p,H p=none->Q (.ref p) (fM H p (.lst (bQ k.toNat xs).flatten))
theorem Sg:jC X (fH .Mult) Dl:=by
 intro bH s σ H x y v u Q I rx ry h
 obtain⟨l,k,xs,rfl,rfl,hH,h1,h2,hz,q⟩:=h
 cases rx
 obtain⟨t,rfl⟩:=ry
 obtain⟨z,df,n,r,hl,e⟩:=Gz I hH
 have hJ:df.toArray.size*k.toNat<=sizeLine:=by rw[cm,←hl];exact hz
 have oX:¬df.toArray.size*k.toNat > (2 ^ 63-1)/8:=by
  have:(sizeLine:Nat)<=(2 ^ 63-1)/8:=by decide
  omega
 have FV:¬(!Builtin.List.listFitsIndex k)=true:=by
  rw[fitsIndex_both h1 h2]
  exact bV
 have CD:¬Builtin.List.listTooLong (df.toArray.size*k.toNat)=true:=by
  rw[xC hJ]
  exact bV
 have Gb:uO (λx1 x2=>x1++x2) #[] (bQ (if df.toArray.isEmpty=true then 0 else k.toNat) df.toArray)=(bQ k.toNat df).flatten.toArray:=by
  have f0:∀m:Nat,uO (λx1 x2=>x1++x2) #[] (bQ m df.toArray)=(bQ m df).flatten.toArray:=λm=>by
   have:=foldl_rep df m []
   rw[xO]at this
   exact this
  rw[f0]
  cases df with
  |nil=>simp
  |cons a r'=>rw[if_neg (by simp)]
 refine wpAny_binaryOp_repeat_ref (T:="list") (U:="int") (by decide) ⟨_,e,rfl⟩ (λs'=>Ah s' k t) noFill_list_mul F.fills_int_mul F.slot_int_rmul repeat_list F.slot_int_index.lookup
  (kP F.slot_int_rmul (Ah s k t) F.entry_int_rmul (F.args_int_rmul_2 _ _) (int___rmul___int_list k t l df.toArray n)
   ⟨e,rfl,⟨_,e,rfl⟩,kP F.slot_list_mul ⟨_,e,rfl⟩ F.entry_list_mul (F.args_list_mul_2 _ _) (AutoListH.list___mul___list_int_3 l df.toArray n k t FV oX CD) ⟨e,?_⟩⟩)
 rw[Gb]
 exact⟨.ref _,_,I.lnew (t':=s.toks) (r.rep k.toNat) (by rw[RC,Nat.mul_comm];exact hz),rfl,q _ I.fresh⟩
theorem QM:oP K ct n m k (rI qH λi j=>.int (i*j)) ig:=Rq
noncomputable def xH:D->D->Option D
 |.lst xs,.int j=>if -1000000<j/\j<1000000/\xs.length<=16 then some (.lst (bQ j.toNat xs).flatten)else none
 |_,_=>none
theorem Ud (ha:XO X ct ms 1 a f)(hb:XE X ct ms m b g):XO X ct ms 1 (.BinOp a .Mult b pos) (e2 xH f g):=by
 obtain⟨ta,pa,qa⟩:=ha
 obtain⟨tb,pb,qb⟩:=hb
 refine⟨_,Ih Sg pa pb,λF0 B F H ρ σ d Q rs e w=>?_⟩
 obtain⟨d1,d2,h1,h2,h3⟩:=eM e
 refine qa F0 B F H ρ σ d1 _ rs h1 λv F1 H1 fp x1 o nd hf=>?_
 refine qb F0 B F1 H1 ρ σ d2 _ (rs.ext x1) h2 λv2 F2 H2 x2 l2=>?_
 cases d1 with
 |lst xs=>
  cases d2 with
  |int j=>
   unfold xH at h3
   dsimp only at h3
   by_cases hz:-1000000<j/\j<1000000/\xs.length<=16
   ·rw[if_pos hz]at h3
    cases h3
    obtain⟨ad,vs,fr,rfl,rfl,hF,hH,ol⟩:=(o.ext x2).lst_inv
    have hp:Pr (Al X.K ct F2 H2 0) xs vs:=ol.pr λ_ _ _ _ q=>q.1
    have JB:=x1.trans x2
    refine⟨ad,j,vs,rfl,l2.int,.inl hH,by omega,by omega,?_,v6 x2.fh (hp.rep _) λv F' H' fp x o nd hf=>w v F' H' fp (JB.trans x) o nd λz hz=>JB.hh.free (hf z hz)⟩
    rw[←hp.length,el]
    have h1:j.toNat<=1000000:=by omega
    have h2:xs.length*j.toNat<=16*1000000:=Nat.mul_le_mul hz.2.2 h1
    omega
   ·rw[if_neg hz]at h3;cases h3
  |_=>cases h3
 |_=>cases h3
noncomputable def zJ:D->Option D
 |.int i=>some (.int (-i))
 |_=>none
theorem LR (ha:XE X ct ms n a f):XE X ct ms k (.UnaryOp .USub a pos) (e1 zJ f):=by
 refine UP Tv (λF H x d1 d Q s l e w=>?_) ha
 cases d1 with
 |int i=>cases e;exact⟨i,l.int,w _ F H (.refl s) (Al.of (.int _))⟩
 |_=>cases e
theorem Sh {u:bC}(hg:Gl X x)(hm:X.mg x=some u)(hs:d.sc=true)(r:RelV d.v u)(hd:(x==("__debug__":Str))=false:=by decide):XE X ct ms n (.Name x pos) (eC d):=by
 refine⟨_,HB hg hm r hd,λF0 B F H ρ σ d' Q rs e w=>?_⟩
 cases e
 refine w _ F H (.refl rs.fh) (Al.of ?_)
 cases d with
 |non=>exact .non
 |bl b=>exact .bl b
 |int b=>exact .int b
 |str b=>exact .str b
 |_=>cases hs
noncomputable def n9:List D->Option D
 |[.lst ds]=>some (.lst ds)
 |[.tup ds]=>some (.lst ds)
 |_=>none
theorem Hj (hn:n<=1):B9 K ct [n] 1 (λxs H Q=>∃p ys,xs=[.ref p]/\(gp K H p ys\/lN K H p ys)/\∀l,H l=none->Q (.ref l) (fM H l (.lst ys))) n9:=by
 intro F H vs ds d Q s l e w
 cases l with
 |cons h t=>
  cases t
  rename_i d1 v
  cases d1 with
  |lst xs=>
   cases e
   obtain⟨a,us,rfl,ha,hp⟩:=Al.lst1 hn h s
   exact⟨a,us,rfl,.inl ha,v6 s hp w⟩
  |tup xs=>
   cases e
   obtain⟨a,us,rfl,ha,hp⟩:=Al.tup1 hn h s
   exact⟨a,us,rfl,.inr (lN.of ha),v6 s hp w⟩
  |_=>cases e
noncomputable abbrev PF:=Env->Option (Option Int)
noncomputable def pNo:PF:=λ_=>some none
noncomputable def pInt (f:EF):PF:=λρ=>(f ρ).bind λd=>match d with
 |.int i=>some (some i)
 |_=>none
noncomputable def XP (X:Cx)(ct:Nat->bI)(ms:List Mo)(e:Option Expr)(f:PF):Prop:=∃t,PO X e t/\∀(F0 B F H:Hp) (ρ:Env) (σ:St) (o:Option Int) (Q:Option Int->Hp->Prop),RS X.K ct F0 B ms F H ρ σ->f ρ=some o->(∀F' H',iU F H F' H'->Q o H')->t σ H Q
theorem v7:XP X ct ms none pNo:=⟨_,Ry,λF0 B F H ρ σ o Q rs e w=>by cases e;exact w F H (.refl rs.fh)⟩
theorem yj (h:XE X ct ms n e f):XP X ct ms (some e) (pInt f):=by
 obtain⟨t,pt,qt⟩:=h
 refine⟨_,HF pt,λF0 B F H ρ σ o Q rs e w=>?_⟩
 obtain⟨d,h1,h2⟩:=ck e
 refine qt F0 B F H ρ σ d _ rs h1 λv F' H' x l=>?_
 cases d with
 |int i=>cases h2;exact⟨i,l.int,w F' H' x⟩
 |_=>cases h2
noncomputable def cutD (xs:List D)(lo hi:Option Int):List D:=(xs.drop (HT.sIx xs.length 0 lo)).take (HT.sIx xs.length xs.length hi-HT.sIx xs.length 0 lo)
theorem Si {vs:List V}{lo hi:Option Int}(h:Pr R ds vs):Pr R (cutD ds lo hi) (uX vs lo hi):=by
 unfold cutD uX
 rw[h.length]
 exact(h.drop _).take _
noncomputable def dP (d:D)(lo hi:Option Int):Option D:=match d with
 |.lst xs=>some (.lst (cutD xs lo hi))
 |_=>none
theorem yg {lo hi:Option Expr}{pl ph:PF}{p1}(hn:n<=1)(he:XE X ct ms n e f)(hl:XP X ct ms lo pl)(hh:XP X ct ms hi ph):XO X ct ms 1 (.Subscript e (.Slice lo hi none p1) pos) (λρ=>(f ρ).bind λd=>(pl ρ).bind λl=>(ph ρ).bind λh=>dP d l h):=by
 obtain⟨t,pt,qt⟩:=he
 obtain⟨t1,vE,vF⟩:=hl
 obtain⟨t2,nh,pY⟩:=hh
 refine⟨_,Kv RB pt vE nh,λF0 B F H ρ σ r Q rs e w=>?_⟩
 obtain⟨d,l,h1,h2,h3⟩:=eM e
 obtain⟨hh,h4,h5⟩:=ck h3
 refine qt F0 B F H ρ σ d _ rs h1 λv F1 H1 x1 l1=>?_
 refine vF F0 B F1 H1 ρ σ l _ (rs.ext x1) h2 λF2 H2 x2=>?_
 refine pY F0 B F2 H2 ρ σ hh _ ((rs.ext x1).ext x2) h4 λF3 H3 x3=>?_
 cases d with
 |lst xs=>
  cases h5
  have sJ:=x2.trans x3
  obtain⟨a,vs,rfl,ha,hp⟩:=Al.lst1 hn (l1.mono sJ.ff sJ.hh) sJ.fh
  exact⟨a,vs,rfl,ha,v6 sJ.fh (Si hp) λv F' H' fp x o nd hf=>w v F' H' fp ((x1.trans sJ).trans x) o nd λz hz=>(x1.trans sJ).hh.free (hf z hz)⟩
 |_=>cases h5
noncomputable def qZ:List D->Option D
 |[.int i]=>some (.int i)
 |[.bl b]=>some (.int (if b then 1 else 0))
 |_=>none
theorem Le:wJ K ct [n] k (λxs H Q=>(∃i,xs=[.int i]/\Q (.int i) H)\/∃b,xs=[.bl b]/\Q (.int (if b then 1 else 0)) H) qZ:=by
 intro F H vs ds d Q s l e w
 cases l with
 |cons h t=>
  cases t
  rename_i d1 v
  cases d1 with
  |int i=>cases e;exact .inl ⟨i,by rw[h.int],w _ F H (.refl s) (Al.of (.int _))⟩
  |bl i=>cases e;exact .inr ⟨i,by rw[h.bl],w _ F H (.refl s) (Al.of (.int _))⟩
  |_=>cases e
noncomputable def Fp:List D->Option D
 |[.int i]=>some (.int (if i<0 then -i else i))
 |_=>none
noncomputable def ii (g:Int->Int->D):List D->Option D
 |[.int i,.int j]=>some (g i j)
 |_=>none
theorem LS {g:Int->Int->D}(hg:∀i j F,Dt K ct F (g i j) (gv i j)):wJ K ct [n,m] k (λxs H Q=>∃i j,xs=[.int i,.int j]/\Q (gv i j) H) (ii g):=by
 intro F H vs ds d Q s l e w
 cases l with
 |cons h t=>
  cases t with
  |cons h' t=>
   cases t
   rename_i d1 v d2 v2
   cases d1 with
   |int i=>
    cases d2 with
    |int j=>cases e;exact⟨i,j,by rw[h.int,h'.int],w _ F H (.refl s) (Al.of (hg i j F))⟩
    |_=>cases e
   |_=>cases e
noncomputable def mF:List D->Option D:=ii λi j=>.int (if j > i then j else i)
noncomputable def uJ:List D->Option D:=ii λi j=>.int (if j<i then j else i)
theorem ju:wJ K ct [n,m] k (λxs H Q=>∃i j,xs=[.int i,.int j]/\Q (.int (if j > i then j else i)) H) mF:=LS λ_ _ _=>.int _
theorem QN:wJ K ct [n,m] k (λxs H Q=>∃i j,xs=[.int i,.int j]/\Q (.int (if j<i then j else i)) H) uJ:=LS λ_ _ _=>.int _
noncomputable def Bm (i:Nat)(o:D->D->Option D)(f:EF):SF:=λρ=>(eV i ρ).bind λx=>(f ρ).bind λy=>(o x y).bind λd=>some (.nx (ρ.set i (some d)))
theorem Ue {gi:Int->Int->Int}(ho:BB X op (Ee gi))(hm:ms[i]?=some (.ow k))(hN:X.N.Nodup)(hi:X.N[i]?=some x)(hx:Loc X.env.scope x)(he:XE X ct ms n e f)(hf:X.fn x=true\/X.env.scope.names.lookup x=some .local:=by first|exact .inl rfl|exact .inr rfl|assumption) :
  XS X ct ms rk (.AugAssign (.Name x pos') op e pos) (Bm i (i2 λi j=>.int (gi i j)) f):=by
 obtain⟨t,pt,qt⟩:=he
 refine⟨_,SG hN hi hx pt ho hf,λF0 B F H ρ σ o E rs e z=>?_⟩
 obtain⟨d1,d2,h1,h2,h3⟩:=eM e
 obtain⟨d,h4,h5⟩:=ck h3
 cases h5
 obtain⟨v,hv,l⟩:=rs.get hm (zt h1)
 refine⟨v,hv,qt F0 B F H ρ σ d2 _ rs h2 λy F' H' x1 l2=>?_⟩
 cases d1 with
 |int i'=>
  cases d2 with
  |int j'=>
   cases h4
   exact⟨i',j',l.int,l2.int,z _ F' H' (rs.set hm x1 (Ow.scal (.int _) rfl) cQ λa z=>(by cases z))⟩
  |_=>cases h4
 |_=>cases h4
noncomputable def sPar (i j:Nat)(fs:Env->Option (List D)):SF:=λρ=>(fs ρ).bind λds=>match ds with
 |[x,y]=>some (.nx ((ρ.set i (some x)).set j (some y)))
 |_=>none
theorem Ug {px py:mZ}{kt k2 nh}(Ga:ms[i]?=some (.ow 0))(NA:ms[j]?=some (.ow 0))(hc:X.calm=true)(hN:X.N.Nodup)(hi:X.N[i]?=some x)(hj:X.N[j]?=some y)(FX:i≠j)
  (hx:X.env.scope.names.lookup x=some .local) (hy:X.env.scope.names.lookup y=some .local) (ha:XA X ct ms [a,b] [0,0] fs)
  (hw:lK [.Tuple [.Name x px,.Name y py] kt pt] (.Tuple [a,b] k2 nh) X.env=pure (some [x,y]))
  (hs:lL [.Tuple [.Name x px,.Name y py] kt pt] (.Tuple [a,b] k2 nh) pos.line X.env=pure false:=by rfl) :
  XS X ct ms rk (.Assign [.Tuple [.Name x px,.Name y py] kt pt] (.Tuple [a,b] k2 nh) pos) (sPar i j fs):=by
 obtain⟨t,pt,_,qt⟩:=ha
 refine⟨_,SE hc hN hi hj FX hx hy pt hw hs,λF0 B F H ρ σ o E rs e z=>?_⟩
 obtain⟨ds,h1,h2⟩:=ck e
 refine qt F0 B F H ρ σ ds _ rs h1 λvs F' H' x1 l=>?_
 cases l with
 |cons l1 l=>
  cases l with
  |cons l2 l=>
   cases l
   cases h2
   have r1:=rs.set Ga x1 (Ow.zero l1) cQ λa z=>(by cases z)
   exact⟨_,_,rfl,z _ F' H' (r1.set NA (.refl x1.fh) (Ow.zero l2) cQ λa z=>(by cases z))⟩
noncomputable def sAsg (g:D->Env->Option Env)(f:EF):SF:=λρ=>(f ρ).bind λd=>(g d ρ).bind λρ'=>some (.nx ρ')
theorem E7 (he:XE X ct ms 0 e f)(hg:XG X ct ms 0 tg gg)(hs:lL [tg] e pos.line X.env=pure false:=by rfl)(hw:lK [tg] e X.env=pure none:=by rfl)
  (h1:(eu [tg] X.env).map (·.2)=[kO tg X.env]:=by rfl):XS X ct ms rk (.Assign [tg] e pos) (sAsg gg f):=by
 obtain⟨t,pt,qt⟩:=he
 obtain⟨t2,nh,pY⟩:=hg
 refine⟨_,Lw pt nh hs hw h1,λF0 B F H ρ σ o E rs e z=>?_⟩
 obtain⟨d,h1,h2⟩:=ck e
 obtain⟨ρ',h3,h4⟩:=ck h2
 cases h4
 exact qt F0 B F H ρ σ d _ rs h1 λv F' H' x l=>pY F0 B F' H' ρ ρ' σ d v _ (rs.ext x) l h3 λσ' r=>z σ' F' H' r
noncomputable def kl:List Nat->List Mo->Bool
 |[],_=>true
 |n::ns,.al m::ms=>decide (n=m)&&kl ns ms
 |n::ns,.ow m::ms=>decide (n=0)&&decide (m=0)&&kl ns ms
 |_,_=>false
theorem jv:∀{pm:List Nat} {ms:List Mo},kl pm ms=true->∀(i n:Nat),pm[i]?=some n->ms[i]?=some (Mo.al n)\/(n=0/\ms[i]?=some (Mo.ow 0))
 |[],_,_,i,n,e=>by simp at e
 |x::ns,.al m::ms,h,i,n,e=>by
  simp only[kl,cw,decide_eq_true_eq]at h
  cases i with
  |zero=>simp at e;subst e;rw[h.1];exact .inl rfl
  |succ i=>simpa using jv h.2 i n (by simpa using e)
 |x::ns,.ow m::ms,h,i,n,e=>by
  simp only[kl,cw,decide_eq_true_eq]at h
  cases i with
  |zero=>simp at e;subst e;rw[h.1.1,h.1.2];exact .inr ⟨rfl,rfl⟩
  |succ i=>simpa using jv h.2 i n (by simpa using e)
 |_::_,[],h,_,_,_=>by simp[kl]at h
 |_::_,.px _::_,h,_,_,_=>by simp[kl]at h
 |_::_,.so _::_,h,_,_,_=>by simp[kl]at h
noncomputable def Ar (X:Cx)(scope:nD)(N:List Str)(own:Nat)(cap:List Nat):Bool :=
 decide (scope.kind=.function)&&scope.names.all (λx=>(decide (x.2≠.cell) || decide (scope.names.lookup x.1=some .cell))&&(decide (x.2≠.local) || decide (scope.names.lookup x.1=some .local))&&(decide (x.2≠.free) || (decide (X.env.kindOf x.1=some .cell) || decide (X.env.kindOf x.1=some .free)))) &&
 decide (N.length=own+cap.length)&&(cC cap.length).all λj=>match N[own+j]?,cap[j]? with
  |some x,some i=>decide (X.N[i]?=some x)&&decide (scope.names.lookup x=some .free)
  |_,_=>false
theorem LU (h:Ar X scope N own cap=true):mD X scope N own cap:=by
 unfold Ar at h
 simp only[cw,decide_eq_true_eq,fS,jE]at h
 obtain⟨⟨⟨h1,h2⟩,h3⟩,h4⟩:=h
 refine⟨h1,λx hx hl=>((h2 x hx).1.1).elim (λz=>absurd hl z) id,λx hx hl=>((h2 x hx).1.2).elim (λz=>absurd hl z) id,λx hx hf=>((h2 x hx).2).elim (λz=>absurd hf z) id,h3,λj x hj=>?_⟩
 have IS:j<cap.length:=by
  have:=(cB.mp hj).1
  omega
 have q:=h4 j (di.mpr IS)
 rw[hj]at q
 have hc:cap[j]?=some cap[j]:=by simp[IS]
 rw[hc]at q
 simp only[cw,decide_eq_true_eq]at q
 exact⟨_,hc,q.1,q.2⟩
noncomputable def ED:D->Option String
 |.non=>some "NoneType"
 |.bl _=>some "bool"
 |.int _=>some "int"
 |.str _=>some "str"
 |.lst _=>some "list"
 |.tup _=>some "tuple"
 |.dK _ _=>some "dict"
 |_=>none
noncomputable def Jy (K:bG)(H:Hp)(v:V)(t:String):Prop:=mL K H v (.type t)\/(t = "list"/\∃a xs,v=.ref a/\gp K H a xs)
theorem Al.ty {v:V}{t:String}(s:cR F H)(h:Al K ct F H n d v)(e:ED d=some t):Jy K H v t:=by
 cases d with
 |non=>cases e;rw[h.non];exact .inl .non
 |bl b=>cases e;rw[h.bl];exact .inl (.bl b)
 |int b=>cases e;rw[h.int];exact .inl (.int b)
 |str b=>cases e;rw[h.str];exact .inl (.str b)
 |lst xs=>
  cases e
  obtain⟨a,vs,rfl,ha,_⟩:=h.lst s
  exact .inr ⟨rfl,a,vs,rfl,ha⟩
 |tup xs=>
  cases e
  obtain⟨a,vs,rfl,ha,_⟩:=h.tup s
  exact .inl (.tup ha)
 |dK ks xs=>
  cases e
  obtain⟨a,vs,rfl,ha,_⟩:=h.dK s
  exact .inl (.dK ha)
 |_=>cases e
theorem P6:gB X (.builtin "isinstance") (λxs H Q=>∃x c t b,xs=[x,.ty c]/\Jy X.K H x t/\eX X.K (.type t) (.type c)=some b/\Q (.bl b) H):=by
 intro bH s σ H xs us Q I r h
 obtain⟨x,c,t,b,rfl,ty,e,q⟩:=h
 rcases ty with ty|⟨rfl,a,ys,rfl,hq⟩
 ·exact Qe bH s σ H _ us Q I r ⟨x,c,_,b,rfl,ty,e,q⟩
 ·obtain⟨u,w',rfl,ru,vG⟩:=vals2 r
  cases(show w'=bC.type c from vG)
  cases(show u=bC.ref a from ru)
  obtain⟨df,rv,⟨o,n,h1,h2,_⟩,_⟩:=I.list hq
  exact dL mR I.kIn ⟨o,h1,h2⟩ e (λz=>nomatch z) λtk=>⟨.bl b,H,I.tok tk,rfl,q⟩
noncomputable def CU (t c:String):Bool:=t==c || (t == "bool" && c == "int")
theorem Sj:∀t∈(["NoneType","bool","int","str","list","tuple","dict"]:List String),∀c∈(["bool","int","str","list","tuple","dict"]:List String),eX K (.type t) (.type c)=some (CU t c):=by
 intro t ht c hc
 simp only[bL,cH,or_false]at ht hc
 rcases ht with rfl|rfl|rfl|rfl|rfl|rfl|rfl<;>rcases hc with rfl|rfl|rfl|rfl|rfl|rfl<;>rfl
theorem Sk {t:String}(e:ED d=some t):t∈(["NoneType","bool","int","str","list","tuple","dict"]:List String):=by
 cases d<;>simp[ED]at e<;>subst e<;>decide
variable {p2:mZ}
noncomputable def pf (c:String)(d:D):Option D:=(ED d).bind λt=>some (.bl (CU t c))
theorem DK {c:String}(hc:c∈(["bool","int","str","list","tuple","dict"]:List String))(hm:X.mg "isinstance"=none)(D5:X.mg c=none)(hb:dr c=some (.type c))(he:XE X ct ms n e f)(hg:Gl X "isinstance":=by rfl)(xV:Gl X c:=by rfl)(Ax:Str.ofString c≠"__name__":=by decide)(hd2:(Str.ofString c==("__debug__":Str))=false:=by decide)
  (A6:bK [e,.Name c p2] X.env=(false,cO e X.env)::bK [.Name c p2] X.env:=by rfl) (qJ:bK [.Name c p2] X.env=(false,cO (.Name c p2) X.env)::bK [] X.env:=by rfl) (jM:(dq pos (bK [.Name c p2] X.env)).any (·.1)=false:=by rfl) :
  XE X ct ms k (.Call (.Name "isinstance" pp) [e,.Name c p2] [] pos) (e1 (pf c) f):=by
 obtain⟨t,pt,qt⟩:=he
 refine⟨_,Hk P6 hg hm uh (yw pt (yw (Rf (v:=.ty c) xV D5 hb rfl Ax hd2) ug qJ) A6) (by decide) (by decide) A6 jM,λF0 B F H ρ σ d Q rs e w=>?_⟩
 obtain⟨d1,h1,h2⟩:=ck e
 obtain⟨ty,h3,h4⟩:=ck h2
 cases h4
 exact qt F0 B F H ρ σ d1 _ rs h1 λv F' H' x l=>⟨v,c,ty,_,rfl,l.ty x.fh h3,Sj _ (Sk h3) _ hc,w _ F' H' x (Al.of (.bl _))⟩
noncomputable def qN (K:bG):Sp:=λvs H Q _=>∃(a:bI) (ns:List Int),vs=[.ref a]/\gp K H a (ns.map V.int)/\ns.length<=63/\∀H',Q (.bl true) H'
theorem Dts.ints {K:bG}{ct:Nat->bI}{F:Hp}:∀ns:List Int,Dts K ct F (ns.map D.int) (ns.map V.int)
 |[]=>.nil
 |n::ns=>.cons (.int n) (Dts.ints ns)
theorem Uh {w:cY}{f:bI}{fd:bW}{m:List D->Option D}(Fn:dm P w K mg base fK k f fd ps (jB K ct [0] 0 m))
  (h:∀ns:List Int,ns.length<=63->m [.lst (ns.map .int)]=some (.bl true)):dm P w K mg base fK k f fd ps (qN K):=by
 have to:∀vs H Q E,qN K vs H Q E->jB K ct [0] 0 m vs H Q E:=by
  rintro vs H Q E ⟨a,ns,rfl,hS,hl,q⟩
  refine⟨H,[.lst (ns.map .int)],.bl true,.refl _,.cons (Dt.lst hS (Dts.ints ns)) .nil,h ns hl,λv F' H' fp x o nd hf=>?_⟩
  have hv:v=.bl true:=by
   have o:Dt K ct F' (.bl true) v/\fp=[]:=o
   cases o.1
   rfl
  subst hv
  exact q H'
 exact⟨λvs H Q E z=>Fn.len vs H Q E (to vs H Q E z),λA outer s H args us vs Q E hr e0 hb hv z=>Fn.run A outer s H args us vs Q E hr e0 hb hv (to vs H Q E z)⟩
theorem J5 {g:D->Env->Option Env}{b:SF}(I:List D->Env->Prop)(all:List D)(st:∀pre d post ρ,all=pre++d::post->I pre ρ->∃ρ1 ρ2,g d ρ=some ρ1/\(b ρ1=some (.nx ρ2)\/b ρ1=some (.ct ρ2))/\I (pre++[d]) ρ2):∀(ds pre:List D) (ρ:Env),all=pre++ds->I pre ρ ->
  ∃ρ',lU g b ds ρ=some (.nx ρ')/\I all ρ'
 |[],pre,ρ,e,h=>⟨ρ,rfl,by rw[e,cV];exact h⟩
 |d::ds,pre,ρ,e,h=>by
  obtain⟨ρ1,ρ2,h1,h2,h3⟩:=st pre d ds ρ e h
  obtain⟨ρ',h4,h5⟩:=J5 I all st ds (pre++[d]) ρ2 (by rw[e];simp) h3
  refine⟨ρ',?_,h5⟩
  show(g d ρ).bind _=_
  rw[h1]
  show(b ρ1).bind _=_
  rcases h2 with h2|h2<;>(rw[h2];exact h4)
theorem Hq {g:D->Env->Option Env}{b:SF}(I:List D->Env->Prop)(h:I [] ρ)(st:∀pre d post ρ,ds=pre++d::post->I pre ρ->∃ρ1 ρ2,g d ρ=some ρ1/\(b ρ1=some (.nx ρ2)\/b ρ1=some (.ct ρ2))/\I (pre++[d]) ρ2) :
  ∃ρ',lU g b ds ρ=some (.nx ρ')/\I ds ρ':=J5 I ds st ds [] ρ rfl h
theorem LV {all pre post:List α}{d:α}(h:all=pre++d::post):all[pre.length]?=some d:=by subst h;simp
theorem J6 {α S:Type}{g:D->Env->Option Env}{b:SF}(enc:α->D)(st:S->Env)(f:S->α->S)(P:S->Prop):∀(xs:List α) (s:S),P s ->
  (∀s x,x∈xs->P s->∃ρ1,g (enc x) (st s)=some ρ1/\(b ρ1=some (.nx (st (f s x)))\/b ρ1=some (.ct (st (f s x))))/\P (f s x))->lU g b (xs.map enc) (st s)=some (.nx (st (xs.foldl f s)))/\P (xs.foldl f s)
 |[],s,hp,_=>⟨rfl,hp⟩
 |x::xs,s,hp,h=>by
  obtain⟨ρ1,h1,h2,h3⟩:=h s x bF hp
  have ih:=J6 enc st f P xs (f s x) h3 λs y hy=>h s y (bJ _ hy)
  refine⟨?_,ih.2⟩
  show(g (enc x) (st s)).bind _=_
  rw[h1]
  show(b ρ1).bind _=_
  rcases h2 with h2|h2<;>(rw[h2];exact ih.1)
theorem J7 {g:D->Env->Option Env}{b:SF}(I:Nat->Env->Prop)(lo:Int):∀(n k:Nat) (ρ:Env),I k ρ ->
  (∀j ρ,k<=j->j<k+n->I j ρ->∃ρ1 ρ2,g (.int (lo+(j:Int))) ρ=some ρ1/\(b ρ1=some (.nx ρ2)\/b ρ1=some (.ct ρ2))/\I (j+1) ρ2) ->
  ∃ρ',lU g b ((oK k n).map λ(t:Nat)=>D.int (lo+(t:Int))) ρ=some (.nx ρ')/\I (k+n) ρ'
 |0,k,ρ,h,_=>⟨ρ,rfl,h⟩
 |n+1,k,ρ,h,st=>by
  obtain⟨ρ1,ρ2,h1,h2,h3⟩:=st k ρ (bY _) (by omega) h
  obtain⟨ρ',h4,h5⟩:=J7 I lo n (k+1) ρ2 h3 λj ρ hj hl hI=>st j ρ (by omega) (by omega) hI
  refine⟨ρ',?_,by rw[show k+(n+1)=k+1+n by omega];exact h5⟩
  rw[iR,cn]
  show(g _ ρ).bind _=_
  rw[h1]
  show(b ρ1).bind _=_
  rcases h2 with h2|h2<;>(rw[h2];exact h4)
theorem vm {g:D->Env->Option Env}{b:SF}(I:Nat->Env->Prop){lo:Int}(h:I 0 ρ)
  (st:∀j ρ,j<n->I j ρ->∃ρ1 ρ2,g (.int (lo+(j:Int))) ρ=some ρ1/\(b ρ1=some (.nx ρ2)\/b ρ1=some (.ct ρ2))/\I (j+1) ρ2):∃ρ',lU g b (oH lo n) ρ=some (.nx ρ')/\I n ρ':=by
 obtain⟨ρ',h1,h2⟩:=J7 (g:=g) (b:=b) I lo n 0 ρ h λj ρ _ hj hI=>st j ρ (by omega) hI
 rw[Nat.zero_add]at h2
 exact⟨ρ',by unfold oH;rw[i7];exact h1,h2⟩
theorem JI {c:BF}{b:SF}(I:Env->Prop)(μ:Env->Nat)(st:∀ρ,I ρ->∃t,c ρ=some t/\(t=true->∃ρ',(b ρ=some (.nx ρ')\/b ρ=some (.ct ρ'))/\I ρ'/\μ ρ' < μ ρ)) :
  ∀(n:Nat) (ρ:Env),I ρ->μ ρ<n->∃ρ',nO c b n ρ=some (.nx ρ')/\I ρ'/\c ρ'=some false
 |0,_,_,h=>absurd h (by omega)
 |n+1,ρ,hI,h=>by
  obtain⟨t,h1,h2⟩:=st ρ hI
  cases t with
  |false=>exact⟨ρ,by show(c ρ).bind _=_;rw[h1];rfl,hI,h1⟩
  |true=>
   obtain⟨ρ',h3,h4,h5⟩:=h2 rfl
   obtain⟨ρ2,h6,h7,h8⟩:=JI I μ st n ρ' h4 (by omega)
   refine⟨ρ2,?_,h7,h8⟩
   show(c ρ).bind _=_
   rw[h1]
   show(b ρ).bind _=_
   rcases h3 with h3|h3<;>(rw[h3];exact h6)
theorem Sl (h:n<2 ^ k)(hk:k<=9000):n<tf:=cF h (t7 (by decide) hk)
theorem Sm (h:n<1048576):n<tf:=Sl (k:=20) h (by decide)
theorem um {i j:Int}(h1:0<j)(h2:j<4611686018427387904):iw (.int i) (.int j)=some (.int (i/j)):=by unfold iw;simp[h1,h2]
theorem yf {i j:Int}(h:0<j):eU (.int i) (.int j)=some (.int (i%j)):=by unfold eU;simp[h]
theorem zaj {i j:Int}(h1:-18446744073709551616<j)(h2:j<18446744073709551616):ig (.int i) (.int j)=some (.int (i*j)):=by simp[ig,wY,og,h1,h2]
theorem jj {i j:Int}(h1:-18446744073709551616<i)(h2:i<18446744073709551616):ig (.int i) (.int j)=some (.int (i*j)):=by simp[ig,wY,og,h1,h2]
theorem zbb {i j:Int}(h1:0<=j)(h2:j<=1000000)(h3:i.natAbs<18446744073709551616):vD (.int i) (.int j)=some (.int (i ^ j.toNat)):=by simp[vD,wY,qL,h1,h2,h3]
theorem zbc {i j:Int}(h1:0<=j)(h2:j<=1000000)(h3:i.natAbs<18446744073709551616):zQ (.int i) (.int j)=some (.int (i*2 ^ j.toNat)):=by simp[zQ,wY,qL,h1,h2,h3]
theorem jw {i j:Int}(h1:0<=j):vK (.int i) (.int j)=some (.int (i/2 ^ j.toNat)):=by simp[vK,wY,h1]
theorem zbd (i j:Int):cP (.int i) (.int j)=some (.int (i+j)):=rfl
theorem yk {xs ys:List D}(h:xs.length+ys.length<=16777216):cP (.lst xs) (.lst ys)=some (.lst (xs++ys)):=by simp[cP,h]
theorem zx (h:x.length+y.length<=16777216):cP (.str x) (.str y)=some (.str (x++y)):=by simp[cP,h]
theorem zbe (i j:Int):vM (.int i) (.int j)=some (.int (i-j)):=rfl
theorem v8 (i j:Int):rK (.int i) (.int j)=some (.bl (decide (i<j))):=rfl
theorem zdq (i j:Int):vA (.int i) (.int j)=some (.bl (decide (i<=j))):=rfl
theorem v9 (i j:Int):xU (.int i) (.int j)=some (.bl (decide (j<i))):=rfl
theorem zdr (i j:Int):BH (.int i) (.int j)=some (.bl (decide (j<=i))):=rfl
theorem zbf (i:Int):zJ (.int i)=some (.int (-i)):=rfl
theorem xg (ds:List D):eO [.lst ds]=some (.int ds.length):=rfl
theorem zbg (ds:List D):eO [.tup ds]=some (.int ds.length):=rfl
theorem zbh (i:Int):Fp [.int i]=some (.int (if i<0 then -i else i)):=rfl
theorem xq (i j:Int):mF [.int i,.int j]=some (.int (if j > i then j else i)):=rfl
theorem uo (i j:Int):uJ [.int i,.int j]=some (.int (if j<i then j else i)):=rfl
theorem zhc (neg:Bool)(d:D):uI neg d .non=some (.bl (if neg then !d.isN else d.isN)):=by cases d<;>rfl
theorem zkq (neg b:Bool)(d:D):uI neg d (.bl b)=some (.bl (if neg then !d.isB b else d.isB b)):=by cases d<;>rfl
theorem uq (b:Bool):Ce (.bl b)=some b:=rfl
theorem ua (ds:List D):Aq (.lst ds)=some ds:=rfl
theorem xo (ds:List D)(l h:Option Int):dP (.lst ds) l h=some (.lst (cutD ds l h)):=rfl
theorem ur {j:Int}(h1:-4611686018427387904<=j)(h2:j<4611686018427387904):pz [.int j]=some (oH 0 j.toNat):=by simp[pz,h1,h2]
theorem Sn (enc:α->D){xs:List α}{i:Int}{x:α}(hi:i=(j:Int)\/i=(j:Int)-xs.length)(h:xs[j]?=some x):atI (xs.map enc) i=some (enc x):=by
 have hj:=(cB.mp h).1
 unfold L2.atI L2.ixN
 rw[bN]
 rcases hi with rfl|rfl
 ·rw[if_pos (by omega),if_pos (by omega)]
  simp[h]
 ·rw[if_neg (by omega),if_pos (by omega)]
  have:((j:Int)-(xs.length:Int)+(xs.length:Int)).toNat=j:=by omega
  simp[this,h]
theorem J8 (xs:List D)(k:Nat):cutD xs none (some (k:Int))=xs.take k:=by
 unfold cutD
 rw[HT.sIx_none,HT.sIx_nat,Nat.sub_zero,yI]
 rcases nS k xs.length with h|h
 ·rw[lQ h]
 ·rw[li h,gc (bY _),gc h]
theorem wn (xs:List D)(k:Nat):cutD xs (some (k:Int)) none=xs.drop k:=by
 unfold cutD
 rw[HT.sIx_none,HT.sIx_nat]
 rcases nS k xs.length with h|h
 ·rw[lQ h,gc (by rw[dQ];omega)]
 ·rw[li h,iC (bY _),iC h]
  simp
theorem KA (xs:List D)(k l:Nat):cutD xs (some (k:Int)) (some (l:Int))=(xs.drop k).take (l-k):=by
 unfold cutD
 rw[HT.sIx_nat,HT.sIx_nat]
 rcases nS k xs.length with h|h
 ·rw[lQ h]
  rcases nS l xs.length with g|g
  ·rw[lQ g]
  ·rw[li g,gc (by rw[dQ];omega),gc (by rw[dQ];omega)]
 ·rw[li h,iC (bY _),iC h]
  simp
theorem J9 {α:Type}{g:D->Env->Option Env}{p:BF}{f:EF}{ρ0:Env}(enc:α->D)(q:α->Bool)(h:α->D):∀(xs:List α),(∀x∈xs,∃ρ1,g (enc x) ρ0=some ρ1/\p ρ1=some (q x)/\(q x=true->f ρ1=some (h x)))->qI g p f ρ0 (xs.map enc)=some ((xs.filter q).map h)
 |[],_=>rfl
 |x::xs,H=>by
  obtain⟨ρ1,h1,h2,h3⟩:=H x bF
  have ih:=J9 enc q h xs λy hy=>H y (bJ _ hy)
  show(g (enc x) ρ0).bind _=_
  rw[h1]
  show(p ρ1).bind _=_
  rw[h2]
  cases hq:q x with
  |false=>
   rw[dO,if_neg bV,rC (by rw[hq];exact bV)]
   exact ih
  |true=>
   rw[dO,if_pos rfl,h3 hq,rD hq]
   show(qI g p f ρ0 (xs.map enc)).bind _=_
   rw[ih]
   rfl
section
open PySem PySem.Spec L2
structure mr (α:Type)[DecidableEq α] where
 enc:α->D
 py:α->cx
 dep:Nat
 is:∀x,(enc x).py=some (py x)
 lay:∀x,(py x).canLay0=true
 dp:∀x,(py x).depth<=dep
 eqv:∀x y,cx.eqv (py x) (py y)=decide (x=y)
section
variable {γ δ ε:Type}[DecidableEq α][DecidableEq β][DecidableEq γ][DecidableEq δ][DecidableEq ε]
theorem mr.eq (E:mr α)(h:E.dep<=60)(x y:α):fR neg (E.enc x) (E.enc y)=some (.bl (if neg then !decide (x=y)else decide (x=y))):=by
 have h1:rh (E.py x)=true:=by unfold rh;rw[E.lay x,decide_eq_true (dC (E.dp x) h)];rfl
 have h2:rh (E.py y)=true:=by unfold rh;rw[E.lay y,decide_eq_true (dC (E.dp y) h)];rfl
 unfold fR
 rw[E.is x,E.is y]
 simp only[dO]
 rw[if_pos ⟨h1,h2⟩,E.eqv]
noncomputable def Ei:mr Int:=⟨.int,.int,0,λ_=>by simp[D.py],λ_=>rfl,λ_=>by simp[cx.depth],λx y=>by show(x==y)=_;by_cases h:x=y<;>simp[h]⟩
noncomputable def Eb:mr Bool:=⟨.bl,.bool,0,λ_=>by simp[D.py],λ_=>rfl,λ_=>by simp[cx.depth],λx y=>by cases x<;>cases y<;>rfl⟩
theorem Lf (E:mr α):∀xs:List α,D.pys (xs.map E.enc)=some (xs.map E.py)
 |[]=>by simp[D.pys]
 |x::xs=>by simp[D.pys,E.is x,Lf E xs]
theorem JJ (E:mr α):∀xs:List α,cx.canLayAll0 (xs.map E.py)=true
 |[]=>by simp[cx.canLayAll0]
 |x::xs=>by simp[cx.canLayAll0,E.lay x,JJ E xs]
theorem JK (E:mr α):∀xs:List α,cx.depthAll (xs.map E.py)<=E.dep
 |[]=>by simp[cx.depthAll]
 |x::xs=>by
  have:=JK E xs
  have:=E.dp x
  simp only[cn,cx.depthAll]
  omega
theorem JL (E:mr α):∀xs ys:List α,cx.eqvAll (xs.map E.py) (ys.map E.py)=decide (xs=ys)
 |[],[]=>by simp[cx.eqvAll]
 |[],_::_=>by simp[cx.eqvAll]
 |_::_,[]=>by simp[cx.eqvAll]
 |x::xs,y::ys=>by
  simp only[cn,cx.eqvAll,E.eqv,JL E xs ys]
  by_cases h:x=y<;>by_cases g:xs=ys<;>simp[h,g]
noncomputable def El (E:mr α):mr (List α):=⟨λxs=>.lst (xs.map E.enc),λxs=>.list (xs.map E.py),E.dep+1,λxs=>by simp[D.py,Lf],λxs=>by simp[cx.canLay0,JJ],λxs=>by have:=JK E xs;simp only[cx.depth];omega,λxs ys=>by simp only[cx.eqv,JL]⟩
noncomputable def E2 (A:mr α)(B:mr β):mr (α×β):=⟨λp=>.tup [A.enc p.1,B.enc p.2],λp=>.tuple [A.py p.1,B.py p.2],max A.dep B.dep+1,λp=>by simp[D.py,D.pys,A.is,B.is],λp=>by simp[cx.canLay0,cx.canLayAll0,A.lay,B.lay],
 λp=>by have:=A.dp p.1;have:=B.dp p.2;simp only[cx.depth,cx.depthAll];omega,λp q=>by
  simp only[cx.eqv,cx.eqvAll,A.eqv,B.eqv]
  obtain⟨a,b⟩:=p
  obtain⟨c,d⟩:=q
  by_cases h:a=c<;>by_cases g:b=d<;>simp[h,g]⟩
end
theorem qj (a b:Int):fR neg (.int a) (.int b)=some (.bl (if neg then !decide (a=b)else decide (a=b))):=Ei.eq (by decide) a b
theorem zhe (a b:Bool):fR neg (.bl a) (.bl b)=some (.bl (if neg then !decide (a=b)else decide (a=b))):=Eb.eq (by decide) a b
end
theorem IntsAre.of {ns:List Int}{us:List bC}(h:c8 (ns.map V.int) us):IntsAre us ns:=Pg h
theorem P7 (hc:X.calm=true):gB X (.builtin "max") (λxs H Q=>∃(a:bI) (ns:List Int),xs=[.ref a]/\gp X.K H a (ns.map V.int)/\ns≠[]/\∀M,M∈ns->(∀z∈ns,z<=M)->Q (.int M) H):=by
 intro bH s σ H xs us Q I r h
 obtain⟨a,ns,rfl,hq,mN,q⟩:=h
 obtain⟨u,rfl,ru⟩:=r.one
 cases(show u=bC.ref a from ru)
 obtain⟨df,rv,pl,hz⟩:=I.list hq
 have hi:=IntsAre.of rv
 obtain⟨ys,e⟩:=hi.allInts.items
 have vY:ns=ys.toList.map (·.1):=by rw[←hi.numsOf,←nums_intItems,←e]
 have hsz:0<ys.size:=by
  have h3:0<ns.length:=eQ.mpr mN
  rw[vY,bN,eP]at h3;exact h3
 have qW:s.heap.IsList a (intItems ys):=e▸pl.isList
 refine max_intList (I.ok.hd hc) qW hsz λv h' tk hv hk=>?_
 obtain⟨t,rfl⟩:=intItems_at hv
 obtain⟨h1,h2⟩:=argBest_gt (numAt ys) (ys.size-1)
 refine⟨.int (numAt ys (argBest (λi j=>decide (numAt ys i > numAt ys j)) (ys.size-1))),H,I.kept (t':=tk) hk,⟨_,rfl⟩,q _ ?_ λz hz=>?_⟩
 ·rw[vY,numAt_eq];exact getD_mem (by rw[bN,eP];omega)
 ·rw[vY]at hz
  obtain⟨j,hj,rfl⟩:=mem_getD hz
  rw[bN,eP]at hj
  rw[←numAt_eq];exact h2 j (by omega)
theorem Ka:∀{bs:List Bool} {us:List bC},c8 (bs.map V.bl) us->us=bs.map bC.bool
 |[],_,.nil=>rfl
 |b::bs,_,.cons r t=>by rw[Ka t];cases(show _=bC.bool b from r);rfl
theorem ut (hc:X.calm=true):gB X (.builtin "all") (λxs H Q=>∃(a:bI) (bs:List Bool),xs=[.ref a]/\gp X.K H a (bs.map V.bl)/\Q (.bl (bs.all id)) H):=by
 intro bH s σ H xs us Q I r h
 obtain⟨a,bs,rfl,hq,q⟩:=h
 obtain⟨u,rfl,ru⟩:=r.one
 cases(show u=bC.ref a from ru)
 obtain⟨df,rv,pl,hz⟩:=I.list hq
 have hb:=Ka rv
 subst hb
 have hl:=pl.isList
 have o7:a<s.heap.objs.size:=by obtain⟨_,e,_⟩:=hl;exact bR e
 refine PySem.call_all_walk (gL hl ?_)
 refine⟨s.heap.objs.size,[s.heap.objs.size,a],[s.heap.objs.size],(bs.map bC.bool).toArray.size,_,_,λi=>(bs[i]?).getD true,rfl,Walks.list (A:=X.A.in1) (I.ok.hd hc) _ a (cy o7) (bs.map bC.bool).toArray,
  ⟨⟨_,bX _ rfl,rfl,rfl⟩,hl.push _⟩,λi v s' Q' E' hP hQ=>?_,λh' tk hk=>?_⟩
 ·have hP:(bs.map bC.bool)[i]?=some v:=by simpa using hP
  rw[c9]at hP
  obtain⟨b,hb,rfl⟩:=il.mp hP
  simp only[hb,uR]at hQ
  exact gM hQ
 ·have e:((cC (bs.map bC.bool).toArray.size).all λi=>(bs[i]?).getD true)=bs.all id:=by
   rw[cm,bN];exact PyProof.Rows.LSm.range_all bs
  rw[e]
  refine⟨.bl (bs.all id),H,I.kept (t':=tk) λb o FK=>hk b o (λhm=>?_) (bE _ FK),rfl,q⟩
  rw[cj.mp hm]at FK
  exact gC _ (bR FK)
noncomputable def o9:List D->Option (List Int)
 |[]=>some []
 |.int i::ds=>(o9 ds).bind λns=>some (i::ns)
 |_=>none
theorem JM:∀{ds:List D} {ns:List Int},o9 ds=some ns->ds=ns.map .int
 |[],_,e=>by cases e;rfl
 |d::ds,ns,e=>by
  cases d with
  |int i=>
   obtain⟨ms,h1,h2⟩:=ck (show(o9 ds).bind _=_ from e)
   cases h2
   rw[JM h1];rfl
  |_=>cases e
theorem Pr.intV {F G:Hp}:∀{ns:List Int} {vs:List V},Pr (Al K ct F G n) (ns.map .int) vs->vs=ns.map V.int
 |[],_,.nil=>rfl
 |i::ns,_,.cons h t=>by rw[Pr.intV t,h.int];rfl
noncomputable def lR:List D->Option (List Bool)
 |[]=>some []
 |.bl i::ds=>(lR ds).bind λns=>some (i::ns)
 |_=>none
theorem qk:∀{ds:List D} {ns:List Bool},lR ds=some ns->ds=ns.map .bl
 |[],_,e=>by cases e;rfl
 |d::ds,ns,e=>by
  cases d with
  |bl i=>
   obtain⟨ms,h1,h2⟩:=ck (show(lR ds).bind _=_ from e)
   cases h2
   rw[qk h1];rfl
  |_=>cases e
theorem Pr.blV {F G:Hp}:∀{ns:List Bool} {vs:List V},Pr (Al K ct F G n) (ns.map .bl) vs->vs=ns.map V.bl
 |[],_,.nil=>rfl
 |i::ns,_,.cons h t=>by rw[Pr.blV t,h.bl];rfl
noncomputable def C0:List Int->Option Int
 |[]=>none
 |x::xs=>some (xs.foldl max x)
theorem Kb:∀(xs:List Int) (x:Int),(xs.foldl max x=x\/xs.foldl max x∈xs)/\x<=xs.foldl max x/\∀z∈xs,z<=xs.foldl max x
 |[],x=>⟨.inl rfl,Int.le_refl _,λz h=>by cases h⟩
 |y::xs,x=>by
  obtain⟨h1,h2,h3⟩:=Kb xs (max x y)
  refine⟨?_,by show x<=xs.foldl max (max x y);omega,λz hz=>?_⟩
  ·rcases h1 with h1|h1
   ·show xs.foldl max (max x y)=x\/xs.foldl max (max x y)∈y::xs
    rw[h1]
    rcases Int.le_total x y with h|h
    ·rw[Int.max_eq_right h];exact .inr bF
    ·rw[Int.max_eq_left h];exact .inl rfl
   ·exact .inr (bJ _ h1)
  ·rcases bL.mp hz with rfl|hz
   ·show z<=xs.foldl max (max x z);omega
   ·exact h3 z hz
theorem QO {ns:List Int}{M:Int}(h:C0 ns=some M):M∈ns/\∀z∈ns,z<=M:=by
 cases ns with
 |nil=>cases h
 |cons x xs=>
  cases h
  obtain⟨h1,h2,h3⟩:=Kb xs x
  refine⟨?_,λz hz=>?_⟩
  ·rcases h1 with h1|h1
   ·rw[h1];exact bF
   ·exact bJ _ h1
  ·rcases bL.mp hz with rfl|hz
   ·exact h2
   ·exact h3 z hz
noncomputable def Ob:List D->Option D
 |[.lst ds]=>(o9 ds).bind λns=>some (.int ns.sum)
 |_=>none
noncomputable def CZ:List D->Option D
 |[.lst ds]=>(o9 ds).bind λns=>(C0 ns).bind λM=>some (.int M)
 |_=>none
noncomputable def kW:List D->Option D
 |[.lst ds]=>(lR ds).bind λbs=>some (.bl (bs.all id))
 |_=>none
theorem QP {vs:List V}{ns:List Int}(s:cR F H)(l:mC K ct F H [n] [.lst ds] vs)(e:o9 ds=some ns):∃a,vs=[.ref a]/\gp K H a (ns.map V.int):=by
 cases l with
 |cons h t=>
  cases t
  obtain⟨a,us,rfl,ha,hp⟩:=h.lst s
  have:=JM e
  subst this
  have:=hp.intV
  subst this
  exact⟨a,rfl,ha⟩
theorem So:wJ K ct [n] k (λxs H Q=>∃(a:bI) (ns:List Int),xs=[.ref a]/\gp K H a (ns.map V.int)/\ns≠[]/\∀M,M∈ns->(∀z∈ns,z<=M)->Q (.int M) H) CZ:=by
 intro F H vs ds d Q s l e w
 match ds,l,e with
 |[.lst xs],l,e=>
  obtain⟨ns,h1,h2⟩:=ck (show(o9 xs).bind _=_ from e)
  obtain⟨M,h3,h4⟩:=ck h2
  cases h4
  obtain⟨a,rfl,ha⟩:=QP s l h1
  obtain⟨m1,m2⟩:=QO h3
  refine⟨a,ns,rfl,ha,(λz=>by rw[z]at m1;cases m1),λM' h5 h6=>?_⟩
  have:M'=M:=Int.le_antisymm (m2 M' h5) (h6 M m1)
  subst this
  exact w _ F H (.refl s) (Al.of (.int _))
theorem ET:wJ K ct [n] k (λxs H Q=>∃(a:bI) (bs:List Bool),xs=[.ref a]/\gp K H a (bs.map V.bl)/\Q (.bl (bs.all id)) H) kW:=by
 intro F H vs ds d Q s l e w
 match ds,l,e with
 |[.lst xs],l,e=>
  obtain⟨bs,h1,h2⟩:=ck (show(lR xs).bind _=_ from e)
  cases h2
  cases l with
  |cons h t=>
   cases t
   obtain⟨a,us,rfl,ha,hp⟩:=h.lst s
   have:=qk h1
   subst this
   have:=hp.blV
   subst this
   exact⟨a,bs,rfl,ha,w _ F H (.refl s) (Al.of (.bl _))⟩
noncomputable def rH (H:Hp)(x:bI):Hp:=λb=>if b=x then none else H b
theorem jx (H:Hp)(x:bI):cR (rH H x) H:=λb o h=>by
 unfold rH at h
 by_cases e:b=x
 ·rw[if_pos e]at h;cases h
 ·rw[if_neg e]at h;exact h
theorem LW (H:Hp)(x:bI):rH H x x=none:=if_pos rfl
theorem uu {x b:bI}(h:b≠x):rH H x b=H b:=if_neg h
noncomputable def tq (K:bG)(ct:Nat->bI)(cs:List Nat)(pm:List Nat)(mi:Nat->List D->Option D):Sp:=λvs H Q _=>∃(F:Hp) (c:Nat) (ds:List D) (d:D) (x dx:bI) (us:List V),c∈cs/\vs=.ref x::us/\H x=some (.ins (ct c) dx [])/\F x=none/\cR F H/\mC K ct F (rH H x) pm ds us/\mi c ds=some d /\
 ∀F' H',cR F F'->cR (rH H x) H'->cR F' H'->(∀a o,rH H x a=some o->lB o->F a=none->F' a=none)->F' x=none->Ow K ct F' H' 1 d (.ref x) [x]->Q .non H'
variable {mi:Nat->List D->Option D}
theorem tq.len (h:pm.length+1=ps.length):∀vs H Q E,tq K ct cs pm mi vs H Q E->vs.length=ps.length:=by
 rintro vs H Q E ⟨F,c,ds,d,x,dx,us,_,rfl,_,_,_,l,_⟩
 rw[bM,l.length,h]
noncomputable def zD (N:List Str)(b:SF)(c:Nat)(ds:List D):Option D:=(b (some (.obj c [] [])::startD N.tail ds)).bind λo=>match o with
 |.nx ρ=>(ρ[0]?).join
 |_=>none
theorem P8 {w:cY}{fd:bW}{N0:Str}(Fn:Fun2 K x qual st fa fd)(S:fX (N0::N) ps (cU st))(yS:pm.length+1=ps.length)(BK:ms.length=N.length)(oZ:pm.length<=N.length)
  (AX:∀(i n:Nat),pm[i]?=some n->ms[i]?=some (Mo.al n)\/(n=0/\ms[i]?=some (Mo.ow 0)))
  (body:∀(x:bI) (iF:bC) (A:c7) (outer:List PySem.Env) (s:bP) (H:Hp) (E:XK),eG kk (A.deeper (envOfC qual (cU st) s.heap.objs.size fa iF))->rF (oW fK P w K mg base (N0::N) qual (cU st) fa iF A outer s H E).nox ct (.so x::ms) rk (fZ st) bf) :
  dm P w K mg base fK (kk+1) fa fd ps (tq K ct cs pm (zD (N0::N) bf)):=by
 refine Fn.ok S (tq.len yS) λiF A outer s H vs Q E hr h=>?_
 obtain⟨F,c,ds,d,x,dx,us,hc,rfl,hx,hF,sF,l,hm,q⟩:=h
 obtain⟨t,pt,qt⟩:=body x iF A outer s H E hr
 refine⟨t,pt,?_⟩
 obtain⟨o,h1,h2⟩:=ck hm
 have yQ:ds.length=us.length:=l.length'
 have NJ:us.length=pm.length:=l.length
 have ow:Ow K ct F H 1 (.obj c [] []) (.ref x) [x]:=.inr (xR.obj (vs:=[]) hF hx rfl .nil)
 have N7:cR F (rH H x):=λb o hb=>by
  rw[uu (λe=>by rw[e,hF]at hb;cases hb)]
  exact sF _ _ hb
 refine qt F (rH H x) F H (some (.obj c [] [])::startD N ds) (L2.start (N0::N) (.ref x::us)) o _ ⟨.refl _,jx H x,sF,λ_ _ _ _ h=>h,[x],?_,by simp,λa z=>by rw[cj]at z;subst z;exact LW H _⟩ h1 ?_
 ·have e:L2.start (N0::N) (.ref x::us)=some (.ref x)::(us.map some++bQ (N.length-us.length) none):=by
   unfold L2.start
   simp
  rw[e]
  unfold startD
  rw[yQ]
  exact SL.so (fp:=[]) ow (SL.start _ l AX (by omega))
 ·cases o with
  |nx ρ=>
   intro σ F' H' r
   obtain⟨fp,sl,nd,hb⟩:=r.sl
   cases sl with
   |no _=>cases h2
   |so Eo _=>
    cases h2
    exact q F' H' r.f0 r.bh r.fh r.nf (Eo.cells x bF).1 Eo
  |rt d'=>cases h2
  |bk ρ=>cases h2
  |ct ρ=>cases h2
theorem KB {f:Str}{y:V}:∀{ns:List Str} {vs:List V},ns.length=vs.length->ns.contains f=false->ky f y (ns.zip vs)=(ns++[f]).zip (vs++[y])
 |[],[],_,_=>rfl
 |[],_::_,h,_=>by simp at h
 |_::_,[],h,_=>by simp at h
 |n::ns,v::vs,h,hc=>by
  rw[mY,sU]at hc
  have hn:¬n=f:=λe=>by rw[e]at hc;simp at hc
  have ih:=KB (f:=f) (y:=y) (ns:=ns) (vs:=vs) (by simpa using h) hc.2
  show ky f y ((n,v)::ns.zip vs)=(n,v)::(ns++[f]).zip (vs++[y])
  rw[←ih]
  show(if n=f then _ else _)=_
  rw[if_neg hn]
theorem Ow.obj_inv {c:Nat}{ns:List Str}{v:V}(h:Ow K ct F H (k+1) (.obj c ns ds) v fp):∃a dx vs fr,v=.ref a/\fp=a::fr/\F a=none/\H a=some (.ins (ct c) dx (ns.zip vs))/\ns.length=vs.length/\ie (Ow K ct F H k) ds vs fr:=by
 rcases h with⟨h,_⟩|h
 ·cases h
 ·cases h with
  |obj h1 h2 h3 h4=>exact⟨_,_,_,_,rfl,rfl,h1,h2,h3,h4⟩
variable {C:bI}{s:Str}
section
variable {x0:bI}
noncomputable def kM (cs:List Nat)(x:Str)(f:EF):SF:=λρ=>(f ρ).bind λd=>(eV 0 ρ).bind λo=>match o with
 |.obj c ns ds=>if cs.contains c=true/\ns.contains x=false/\ns.length<900 then some (.nx (ρ.set 0 (some (.obj c (ns++[x]) (ds++[d])))))else none
 |_=>none
theorem RS.self {F' H':Hp}(rs:RS K ct F0 B (.so x0::ms) F H ρ σ)(hd:ρ[0]?=some (some d)):σ[0]?=some (some (.ref x0))/\Ow K ct F H 1 d (.ref x0) [x0]/\B x0=none /\
  ∀(F' H':Hp) (d':D),cR F F'->cR B H'->cR F' H'->(∀a o,B a=some o->lB o->F0 a=none->F' a=none)->(∀a o,H a=some o->a≠x0->H' a=some o)->(∀a o,H a=some o->a≠x0->lB o->F a=none->F' a=none)->Ow K ct F' H' 1 d' (.ref x0) [x0]->RS K ct F0 B (.so x0::ms) F' H' (ρ.set 0 (some d')) σ:=by
 obtain⟨fp,sl,nd,hb⟩:=rs.sl
 cases sl with
 |no _=>simp at hd
 |so ow t=>
  simp at hd
  subst hd
  refine⟨rfl,ow,hb _ bF,λF' H' d' s1 s2 s3 s4 k1 k2 o'=>⟨rs.f0.trans s1,s2,s3,s4,_,.so o' (t.frame s1 λa z=>?_),nd,hb⟩⟩
  obtain⟨hn,o,ho,nt⟩:=t.cells a z
  have ne:a≠x0:=λe=>(cX.mp nd).1 (by rw[←e];exact z)
  exact⟨(k1 a o ho ne).trans ho.symm,k2 a o ho ne nt hn⟩
theorem vw (hc:∀c∈cs,ma X.K (ct c)/\eR X.K (ct c) x)(he:XE X ct (.so x0::ms) 0 e f)(hN:X.N[0]?=some s:=by rfl)(hv:rY X.env.scope s:=by first|exact Or.inl rfl|exact Or.inr (Or.inl rfl)|exact Or.inr (Or.inr rfl))(hd:(s==("__debug__":Str))=false:=by decide)
  (kJ:(s==("__classdict__":Str))=false:=by decide) (hs:eI e (some (.Attribute (.Name s p1) x pos')) pos.line X.env=pure false:=by rfl):XS X ct (.so x0::ms) rk (.Assign [.Attribute (.Name s p1) x pos'] e pos) (kM cs x f):=by
 obtain⟨t,pt,qt⟩:=he
 refine⟨_,LI (wj hN hv hd kJ) pt hs,λF0 B F H ρ σ o E rs e z=>?_⟩
 obtain⟨d,h1,h2⟩:=ck e
 obtain⟨ob,h3,h4⟩:=ck h2
 refine qt F0 B F H ρ σ d _ rs h1 λy F1 H1 x1 l=>?_
 have pA:=rs.ext x1
 obtain⟨hσ,ow,hB,put⟩:=pA.self (F':=F) (H':=H) (zt h3)
 refine⟨_,hσ,?_⟩
 cases ob with
 |obj c ns ds=>
  dsimp only at h4
  by_cases hz:cs.contains c=true/\ns.contains x=false/\ns.length<900
  ·rw[if_pos hz]at h4
   cases h4
   obtain⟨a,dx,vs,fr,e1,e2,hF,hH,hl,ol⟩:=ow.obj_inv
   cases e1
   cases e2
   have hh:=hc c (by simpa using hz.1)
   refine⟨x0,_,dx,_,rfl,hH,hh.1,hh.2,by rw[hZ,←hl,jX];omega,?_⟩
   rw[KB hl hz.2.1]
   refine z σ F1 _ (put F1 _ _ (.refl _) (λb o h=>?_) (λb o h=>?_) pA.nf (λb o h ne=>by rw[zp ne];exact h) (λb o h ne _ hn=>hn) (.inr (xR.obj (vs:=vs++[y]) hF zw (by simp[hl]) ?_)))
   ·rw[zp (λe=>by rw[e,hB]at h;cases h)];exact pA.bh _ _ h
   ·rw[zp (λe=>by rw[e,hF]at h;cases h)];exact pA.fh _ _ h
   ·have o1:ie (Ow X.K ct F1 (fM H1 x0 (.ins (ct c) dx ((ns++[x]).zip (vs++[y])))) 0) ds vs []:=ol.mono λ_ _ _ _ q=>⟨q.1,q.2⟩
    have:=o1.append (ie.cons (f:=[]) (g:=[]) (R:=Ow X.K ct F1 (fM H1 x0 (.ins (ct c) dx ((ns++[x]).zip (vs++[y])))) 0) ⟨l,rfl⟩ .nil)
    exact this
  ·rw[if_neg hz]at h4;cases h4
 |_=>cases h4
variable {fd:bW}
theorem Sq (M:Mk X.K (ct c0) fa)(wU:c0∈cs)(Fn:dm X.prog X.w X.K X.mg X.base fK kk fa fd ps (tq X.K ct cs (ns++nd) mi))(hr:eG (kk+1) X.A)(hg:Gl X x)(hm:X.mg x=some (.ref (ct c0)))
  (hb:fO X.K fd ps se) (hd:c8 kF se) (AU:∀F G,mC X.K ct F G nd mh kF) (ha:XA X ct ms (e::es) ns fs)
  (lV:(x==("__debug__":Str))=false:=by decide) (he:bK (e::es) X.env=(false,cO e X.env)::bK es X.env:=by rfl) (jM:(dq pos (bK es X.env)).any (·.1)=false:=by rfl) :
  XO X ct ms 1 (.Call (.Name x pp) (e::es) [] pos) (λρ=>(fs ρ).bind λds=>mi c0 (ds++mh)):=by
 obtain⟨t,pt,_,qt⟩:=ha
 refine⟨_,Rx M Fn hr hg hm hb hd nc pt lV he jM,λF0 B F H ρ σ r Q rs e w=>?_⟩
 obtain⟨ds,h1,h2⟩:=ck e
 refine qt F0 B F H ρ σ ds _ rs h1 λvs F1 H1 x1 l y dy hy FQ mN=>?_
 have sH:cR H1 (rH (fM (fM H1 dy (.own y)) y (.ins (ct c0) dy [])) y):=λb o h=>by
  have n1:b≠y:=zu h hy
  rw[uu n1,zp n1,zp (zu h FQ)]
  exact h
 have N8:cR H1 (fM (fM H1 dy (.own y)) y (.ins (ct c0) dy [])):=sH.trans (jx _ _)
 refine⟨F1,c0,ds++mh,r,y,dy,vs++kF,wU,rfl,zw,x1.fh.free hy,x1.fh.trans N8,mC.mono (.refl _) sH (mC.append (AU F1 H1) l),h2,λF' H' s1 s2 s3 s4 hn ow=>⟨rfl,?_⟩⟩
 refine w _ F' H' [y] ⟨x1.ff.trans s1,(x1.hh.trans sH).trans s2,s3,λb o h t n=>s4 b o (sH _ _ (x1.hh _ _ h)) t (x1.nf b o h t n)⟩ ow (by simp) λb z=>?_
 rw[cj]at z
 subst z
 exact x1.hh.free hy
theorem QQ {sp:Sp}{ds:List bC}{E:XK}{m:Str}{p:mZ}{t:TA}{mc:bC}(Fn:dm X.prog X.w X.K X.mg X.base fK kk fa fd ps sp)(hr:eG kk X.A)(hg:Gl X x)(hm:X.mg x=some (.ref C))
  (h1:gx X.K (.ref C) "__getattribute__"=some (some (.builtin "type.__getattribute__"))) (h2:nX X.K C mc=true) (h3:nV X.K (.ref C) mc m=some (.val (.ref fa))) (hk:ei X.K (.ref fa)=true) (hb:fO X.K fd ps ds) (hd:c8 kF ds) (hx:kx fK X E) (ha:PA X (e::es) t)
  (lV:(x==("__debug__":Str))=false:=by decide) (mj:bK (e::es) X.env=(false,cO e X.env)::bK es X.env:=by rfl) (jM:(dq pos (bK es X.env)).any (·.1)=false:=by rfl)
  (ht:cO (.Call (.Attribute (.Name x p) m fT) (e::es) [] pos) X.env=(do
   let ov ← cO (.Name x p) X.env
   jO fT.atName
   let(f,first) ← gh [ov] (iK ov m pl)
   jY pos f first (dq pos (bK (e::es) X.env)) (gk pos (ek [] X.env))):=by rfl) :
  PE X (.Call (.Attribute (.Name x p) m fT) (e::es) [] pos) (AH sp kF E t):=by
 intro bH s σ H Q I h
 refine iE (pl:=pl) (wo I hg hm ?_ lV) ht
 refine PySem.W.method_cls I.kIn h1 (PySem.W.cls_value I.kIn h2 h3 rfl ?_)
 have I1:Inv X bH σ H { s with toks:=s.toks+1 }:=I.tok _
 refine gZ (first:=[]) (h₀:=X.base) I.ok.mod.kin hk (eL (ha pos bH _ σ H _ I1 h) λus s2 ⟨vs,H2,I2,r,q2⟩=>⟨I2.kIn,?_⟩) mj jM
 exact DE (us:=us) (vs:=vs) Fn hr hb hd hx I2 r q2
theorem mC.flat {vs:List V}(h:mC K ct F G ns ds vs)(e:ns.all (· == 0)=true):mC K ct F G' ns ds vs:=by
 induction h with
 |nil=>exact .nil
 |cons h t ih=>
  rw[fL,cw]at e
  cases eq_of_beq e.1
  exact .cons h (ih e.2)
noncomputable def rj (cs:List Nat)(fs:Env->Option (List D))(mi:Nat->List D->Option D):SF:=λρ=>(eV 0 ρ).bind λo=>(fs ρ).bind λds=>match o with
 |.obj c [] []=>if cs.contains c=true then(mi c ds).bind λd=>some (.nx (ρ.set 0 (some d)))else none
 |_=>none
theorem HJ {m:Str}{p:mZ}{mc:bC}(Fn:dm X.prog X.w X.K X.mg X.base fK kk fa fd ps (tq X.K ct cs ns mi))(hr:eG kk X.A)(hm:X.mg x=some (.ref C))
  (h1:gx X.K (.ref C) "__getattribute__"=some (some (.builtin "type.__getattribute__"))) (h2:nX X.K C mc=true) (h3:nV X.K (.ref C) mc m=some (.val (.ref fa))) (hk:ei X.K (.ref fa)=true) (hb:fO X.K fd ps []) (hz:ns.all (· == 0)=true) (ha:XA X ct (.so x0::ms) es ns fs)
  (hg:Gl X x:=by rfl) (hN:X.N[0]?=some s:=by rfl) (hv:rY X.env.scope s:=by first|exact Or.inl rfl|exact Or.inr (Or.inl rfl)|exact Or.inr (Or.inr rfl)) (hd:(s==("__debug__":Str))=false:=by decide)
  (kJ:(s==("__classdict__":Str))=false:=by decide) (lV:(x==("__debug__":Str))=false:=by decide) (mj:bK (.Name s p1::es) X.env=(false,cO (.Name s p1) X.env)::bK es X.env:=by rfl) (jM:(dq gE (bK es X.env)).any (·.1)=false:=by rfl)
  (ht:cO (.Call (.Attribute (.Name x p) m fT) (.Name s p1::es) [] gE) X.env=(do
   let ov ← cO (.Name x p) X.env
   jO fT.atName
   let(f,first) ← gh [ov] (iK ov m pl)
   jY gE f first (dq gE (bK (.Name s p1::es) X.env)) (gk gE (ek [] X.env))):=by rfl)
  (yV:eI (.Call (.Attribute (.Name x p) m fT) (.Name s p1::es) [] gE) none pos.line X.env=pure false:=by rfl) :
  XS X ct (.so x0::ms) rk (.Expr (.Call (.Attribute (.Name x p) m fT) (.Name s p1::es) [] gE) pos) (rj cs fs mi):=by
 obtain⟨t,pt,_,qt⟩:=ha
 refine⟨_,HE (QQ (E:=E0) Fn hr hg hm h1 h2 h3 hk hb .nil nc (yw (wj hN hv hd kJ) pt mj) lV mj jM ht) yV,λF0 B F H ρ σ o E rs e z=>?_⟩
 obtain⟨ob,ds,g1,g2,g3⟩:=eM e
 obtain⟨hσ,ow,hB,put⟩:=rs.self (F':=F) (H':=H) (zt g1)
 refine⟨_,hσ,qt F0 B F H ρ σ ds _ rs g2 λvs F1 H1 x1 l=>?_⟩
 have pA:=rs.ext x1
 obtain⟨hσ,ow,hB,put⟩:=pA.self (F':=F) (H':=H) (zt g1)
 match ob,g3,ow with
 |.obj c [] [],g3,ow=>
  dsimp only at g3
  by_cases hc:cs.contains c=true
  ·rw[if_pos hc]at g3
   obtain⟨d,g4,g5⟩:=ck g3
   cases g5
   obtain⟨a,dx,us,fr,e1,e2,hF,hH,hl,ol⟩:=ow.obj_inv
   cases e1
   cases e2
   refine⟨F1,c,ds,d,x0,dx,vs++[],by simpa using hc,rfl,hH,hF,x1.fh,?_,g4,λF' H' s1 s2 s3 s4 hn o'=>?_⟩
   ·rw[cV];exact l.flat hz
   ·have sB:cR B (rH H1 x0):=λb o h=>by
     rw[uu (λe=>by rw[e,hB]at h;cases h)]
     exact pA.bh _ _ h
    exact z σ F' H' (put F' H' d s1 (sB.trans s2) s3 (λb o h t n=>s4 b o (sB _ _ h) t (pA.nf b o h t n)) (λb o h ne=>s2 _ _ (by rw[uu ne];exact h)) (λb o h ne t rJ=>s4 b o (by rw[uu ne];exact h) t rJ) o')
  ·rw[if_neg hc]at g3;cases g3
end
structure kA (K:bG)(mg:Str->Option bC)(x:Str)(st:dH)(ps:List Str)(f:bI)(fd:bW):Prop where
 fn:Fun2 K x x st f fd
 mgx:mg x=some (.ref f)
 bd:fO K fd ps []
structure Dm (K:bG)(C:bI)(m qual:Str)(st:dH)(ps:List Str)(f:bI)(fd:bW):Prop where
 fn:Fun2 K m qual st f fd
 me:nH K C m f
 bd:fO K fd ps []
structure Dc (K:bG)(mg:Str->Option bC)(x:Str)(C:bI):Prop where
 cl:ma K C
 mgx:mg x=some (.ref C)
 mks:nW K C=true
 kp:ei K (.ref C)=true
structure Dq (K:bG)(C:bI)(m:Str)(f:bI):Prop where
 sp:gx K (.ref C) "__getattribute__"=some (some (.builtin "type.__getattribute__"))
 rd:nX K C (.type "type")=true
 fc:nV K (.ref C) (.type "type") m=some (.val (.ref f))
theorem Lg {f:bI}{oc:bC}{od an:Option bI}{yA:Array (Option bC)}{dV kV doc pm iF ct:bC}(l:K.lookup f=some ⟨oc,od,.func (kR x qual (jH st) (fZ st) (cU st) dV kV doc pm an iF ct),yA⟩)
  (c:oO K iF qual=true) (k:ei K (.ref f)=true):Fun2 K x qual st f (kR x qual (jH st) (fZ st) (cU st) dV kV doc pm an iF ct):=⟨⟨oc,od,dV,kV,doc,pm,an,iF,ct,yA,rfl,l,c⟩,k⟩
variable {T:bI}{items:Array bC}
theorem Sr {fd:bW}{ds:List bC}{o:gH}(hd:fd.defaults=.ref T)(ho:K.lookup T=some o)(hs:o.data=.seq items n)
  (h:∀us:List bC,(us++ds).length=ps.length->∃k,bindArgs fd ⟨us,[]⟩=seqItems? fd.defaults >>= k/\k (some items)=pure (ps.zip (us++ds))):fO K fd ps ds:=λs us X hl=>by
 obtain⟨k,h1,h2⟩:=h us hl
 exact PySem.W.binds_K X hd ho hs h1 h2
theorem Lh (m:Nat){fd:bW}{ds:List bC}{o:gH}(ho:K.lookup T=some o)(h:∀us:List bC,us.length=m->∃k,bindArgs fd ⟨us,[]⟩=seqItems? fd.defaults >>= k/\k (some items)=pure (ps.zip (us++ds)))(hd:fd.defaults=.ref T:=by rfl)(hs:o.data=.seq items n:=by rfl)(hm:m+ds.length=ps.length:=by rfl):fO K fd ps ds :=
 Sr hd ho hs λus hl=>h us (by rw[cv]at hl;omega)
noncomputable def Fl (x:Str):It:=⟨λi _=>∃c,x.cps[i]?=some c,λi H v H'=>H'=H/\∃c,x.cps[i]?=some c/\v=.str ⟨#[c]⟩,λi _=>x.cps[i]?=none⟩
theorem QR {w:cY}(x:Str)(t:Tok)(it:bI):Turn P w K tg (Fl x) [it] it (λi h=>h.IsStrIter it (ee x) x t i) where
 mem:=by simp
 obj:=λi h st b hb=>by
  have e:b=it:=by simpa using hb
  subst e
  obtain⟨o,e,c,d⟩:=st
  exact⟨o,e,λv z=>by rw[d]at z;cases z⟩
 keep:=λi h h' st k=>by
  obtain⟨o,e,c,d⟩:=st
  exact⟨o,k it (by simp) o e,c,d⟩
 item:=by
  intro X hP hw hK hc i bH s σ H E I hf st hg
  subst hP hw hK
  obtain⟨c,hx⟩:=hg
  obtain⟨f0,f1,f2,f3,f4,f5⟩:=hf it (by simp)
  have fin:∀h':bU,h'.IsStrIter it (ee x) x t (i+1)->eS it s.heap h'->ce (cr X.prog X.w) X.A (kd tg (.ref it) (.str ⟨#[c]⟩ s.toks)) (λ_ s2=>∃v H',Inv X bH σ H' s2/\RelV v (.str ⟨#[c]⟩ s.toks)/\(Fl x).yld i H v H'/\s2.heap.IsStrIter it (ee x) x t (i+1)/\∀b∈[it],H' b=none) E { s with heap:=h',toks:=s.toks+1 }:=λh' wB sb=>by
   have I1:Inv X bH σ H { s with heap:=h',toks:=s.toks+1 }:=I.turned (t':=s.toks+1) (λb o hb e=>(sb.2 b hb).trans e) f0 f1 f3 f4 f5
   obtain⟨o,e,cc,d⟩:=id wB
   refine Ie (s:={ s with heap:=h',toks:=s.toks+1 }) e cc d ?_ ⟨.str ⟨#[c]⟩,H,I1,⟨_,rfl⟩,⟨rfl,c,hx,rfl⟩,wB,λb hb=>(hf b hb).1⟩
   unfold ee
   split<;>decide
  cases ha:x.cps.all (·<128)with
  |true=>
   have e:ee x = "str_ascii_iterator":=by unfold ee;rw[ha];rfl
   rw[e]at st fin
   exact wpAny_pyNext_ascii_item st hx λh' wB sb=>⟨_,rfl,by rw[e];exact fin h' wB sb⟩
  |false=>
   have e:ee x = "str_iterator":=by unfold ee;rw[ha];rfl
   rw[e]at st fin
   exact wpAny_pyNext_wide_item st hx λh' wB sb=>⟨_,rfl,by rw[e];exact fin h' wB sb⟩
 done:=by
  intro X hP hw hK hc i bH s σ H E I hf st hg
  subst hP hw hK
  obtain⟨f0,f1,f2,f3,f4,f5⟩:=hf it (by simp)
  cases ha:x.cps.all (·<128)with
  |true=>
   have e:ee x = "str_ascii_iterator":=by unfold ee;rw[ha];rfl
   rw[e]at st
   exact wpAny_pyNext_ascii_end (I.ok.hd hc) st hg λh' eb=>⟨rfl,I.turned (t':=s.toks) (λb o hb e=>eb b o hb e) f0 f1 f3 f4 f5⟩
  |false=>
   have e:ee x = "str_iterator":=by unfold ee;rw[ha];rfl
   rw[e]at st
   exact wpAny_pyNext_wide_end (I.ok.hd hc) st hg λh' eb=>⟨rfl,I.turned (t':=s.toks) (λb o hb e=>eb b o hb e) f0 f1 f3 f4 f5⟩
 self:=λA i s Q E st h=>by
  cases ha:x.cps.all (·<128)with
  |true=>
   have e:ee x = "str_ascii_iterator":=by unfold ee;rw[ha];rfl
   rw[e]at st
   exact wpAny_pyIter_striter_ascii st h
  |false=>
   have e:ee x = "str_iterator":=by unfold ee;rw[ha];rfl
   rw[e]at st
   exact wpAny_pyIter_striter_wide st h
noncomputable def Gr (tl:TE):TI:=λσ H R=>tl σ H λx H1=>∃z,x=.str z/\R (Fl z) H1
theorem Ui {l:Expr}{tl:TE}(hl:PE X l tl):PI X tg l (Gr tl):=by
 intro bH s σ H R I h
 refine eL (hl bH s σ H _ I h) λv s1 fk=>?_
 obtain⟨x,H1,I1,r,z,e,q⟩:=fk
 subst e
 obtain⟨t,rfl⟩:=r
 refine wpAny_pyIter_strU ?_
 refine⟨s1.heap.objs.size,[s1.heap.objs.size],_,_,H1,rfl,I1.kept (t':=s1.toks) λb o e=>bE _ e,(QR z t _).ok,⟨_,bX _ rfl,rfl,rfl⟩,λb hb=>?_,q⟩
 have e:b=s1.heap.objs.size:=by simpa using hb
 subst e
 exact I1.fpOk (bY _) (I1.hok.fresh (bY _))
noncomputable def pI (x:Str):List D:=x.cps.toList.map λc=>.str ⟨#[c]⟩
noncomputable def Ft:D->Option (List D)
 |.str x=>some (pI x)
 |_=>none
theorem LX (he:XE X ct ms m e f):XI X ct ms n tg e (λρ=>(f ρ).bind Ft):=by
 obtain⟨t,pt,qt⟩:=he
 refine⟨_,Ui pt,λF0 B F H ρ σ ds R rs e w=>?_⟩
 obtain⟨d,h1,h2⟩:=ck e
 refine qt F0 B F H ρ σ _ _ rs h1 λv F' H' x l=>?_
 cases d with
 |str z=>
  cases h2
  refine⟨z,l.str,w _ F' H' x λi F2 H2 s1 s2 s3=>⟨λd hd=>?_,λhl=>?_⟩⟩
  ·unfold pI at hd
   rw[c9]at hd
   obtain⟨c,hc,rfl⟩:=il.mp hd
   have Av:z.cps[i]?=some c:=by simpa using hc
   refine⟨⟨c,Av⟩,λy H3 hy=>?_⟩
   obtain⟨rfl,c2,h3,rfl⟩:=hy
   rw[Av]at h3
   cases h3
   exact⟨F2,.refl s3,Al.of (.str _)⟩
  ·unfold pI at hl
   rw[bN,eP]at hl
   exact Array.getElem?_eq_none hl
 |_=>cases h2
theorem QS [DecidableEq κ](k:κ)(v:V):∀{ks:List κ} {vs:List V},ks.length=vs.length->putK (ks.zip vs) k v=(if ks.contains k=true then ks.zip ((ks.zip vs).map λp=>if p.1=k then v else p.2)else(ks++[k]).zip (vs++[v])):=by
 intro ks vs hl
 unfold putK
 have e:((ks.zip vs).any λkv=>decide (kv.1=k))=ks.contains k:=by
  rw[xN,wD,sK]
  constructor
  ·rintro⟨p,hp,he⟩
   have:=decide_eq_true_iff.mp he
   rw[←this]
   exact(lI hp).1
  ·intro hk
   obtain⟨i,hi,rfl⟩:=List.getElem_of_mem hk
   exact⟨(ks[i],vs[i]'(by omega)),mn.mpr ⟨i,by simp;omega,by simp⟩,by simp⟩
 rw[e]
 by_cases h:ks.contains k=true
 ·rw[if_pos h,if_pos h]
  clear e h
  induction ks generalizing vs with
  |nil=>simp
  |cons y ks ih=>
   cases vs with
   |nil=>simp at hl
   |cons u vs=>
    simp only[e9,cn,ih (by simpa using hl)]
    by_cases hy:y=k<;>simp[hy]
 ·rw[if_neg h,if_neg h,List.zip_append hl]
  rfl
noncomputable def uL (i:Nat)(fj f:EF):SF:=λρ=>(f ρ).bind λd=>(eV i ρ).bind λo=>(fj ρ).bind λj=>match o with
 |.dK ks ds=>(zE j).bind λk=>if ks.length<16777216 then some (.nx (ρ.set i (some (.dK (lq ks ds k d).1 (lq ks ds k d).2))))else none
 |.dT ks ds=>(match j with
  |.tup js=>(sf js).bind λk=>if ks.length<16777216 then some (.nx (ρ.set i (some (.dT (lq ks ds k d).1 (lq ks ds k d).2))))else none
  |_=>none)
 |_=>none
theorem KH [DecidableEq κ]{v:V}(r:R d v)(k:κ){ks:List κ}{vs:List V}(hl:ks.length=vs.length)(hp:Pr R ds vs) :
  ∃us,putK (ks.zip vs) k v=(lq ks ds k d).1.zip us/\(lq ks ds k d).1.length=us.length/\Pr R (lq ks ds k d).2 us:=by
 rw[QS k v hl]
 unfold lq
 by_cases h:ks.contains k=true
 ·rw[if_pos h,if_pos h]
  refine⟨_,rfl,by simp[hl],?_⟩
  clear h
  induction ks generalizing ds vs with
  |nil=>simp;exact .nil
  |cons y ks ih=>
   cases hp with
   |nil=>simp at hl
   |cons h t=>
    simp only[e9,cn]
    refine .cons ?_ (ih (by simpa using hl) t)
    by_cases hy:y=k
    ·rw[if_pos hy,if_pos hy];exact r
    ·rw[if_neg hy,if_neg hy];exact h
 ·rw[if_neg h,if_neg h]
  exact⟨_,rfl,by simp[hl],hp.append (.cons r .nil)⟩
theorem Ss (i:Nat){j:Expr}(hm:ms[i]?=some (.ow 1))(hu:X.A.units+1<ox)(hj:XE X ct ms 0 j fj)(he:XE X ct ms 0 e f)(hN:X.N[i]?=some x:=by rfl)(hv:rY X.env.scope x:=by first|exact Or.inl rfl|exact Or.inr (Or.inl rfl)|exact Or.inr (Or.inr rfl))(hd:(x==("__debug__":Str))=false:=by decide)
  (kJ:(x==("__classdict__":Str))=false:=by decide) (hs:eI e (some (.Subscript (.Name x p1) j mQ)) pos.line X.env=pure false:=by rfl) :
  XS X ct ms rk (.Assign [.Subscript (.Name x p1) j mQ] e pos) (uL i fj f):=by
 obtain⟨t,pt,qt⟩:=he
 obtain⟨tj,Dd,De⟩:=hj
 refine⟨_,RD hu (wj hN hv hd kJ) Dd pt hs,λF0 B F H ρ σ o E rs e z=>?_⟩
 obtain⟨d,g1,g2⟩:=ck e
 obtain⟨d1,Au,g3,g4,g5⟩:=eM g2
 refine qt F0 B F H ρ σ d _ rs g1 λv0 F1 H1 x1 l0=>?_
 have pA:=rs.ext x1
 obtain⟨f1,fr,n1,b1,dj,i4,cf,put⟩:=pA.put (F':=F) (H':=H) hm
 obtain⟨v,hσ,ow⟩:=i4 d1 (zt g3)
 refine⟨v,hσ,De F0 B F1 H1 ρ σ Au _ pA g4 λvj F2 H2 x2 lj=>?_⟩
 have Jh:Dt X.K ct F2 d v0:=Dt.mono x2.ff l0
 cases d1 with
 |dK ks ds=>
  dsimp only at g5
  obtain⟨key,g6,g7⟩:=ck g5
  by_cases hz:ks.length<16777216
  ·rw[if_pos hz]at g7
   cases g7
   obtain⟨ad,vs,Cj,rfl,rfl,hF,hH,hl,ol⟩:=ow.dK_inv
   have hA:=x2.hh _ _ hH
   have fA:F2 ad=none:=x2.nf ad _ hH nofun hF
   have e0:=ol.nil0
   subst e0
   have hp:Pr (Dt X.K ct F2) ds vs:=ol.pr λ_ _ _ _ q=>q.1.mono x2.ff
   obtain⟨us,Gk,CL,Gm⟩:=KH Jh key hl hp
   have hk:=HN g6 lj
   subst hk
   refine⟨ad,_,rfl,rW.k hA (by rw[hZ,←hl,jX,el];exact hz),?_⟩
   rw[Gk]
   refine z σ F2 _ (pA.change hm x2 hσ b1 dj cf put bF fA (.inr (.dK fA zw CL (ie.ofPr (Gm.mono λ_ _ q=>⟨q,rfl⟩)))) (fn:=[ad]) (by simp) ?_)
   intro a ha
   rw[cj]at ha
   subst ha
   exact .inl bF
  ·rw[if_neg hz]at g7;cases g7
 |dT ks ds=>
  cases Au with
  |tup js=>
   dsimp only at g5
   obtain⟨key,g6,g7⟩:=ck g5
   by_cases hz:ks.length<16777216
   ·rw[if_pos hz]at g7
    cases g7
    obtain⟨ad,vs,Cj,rfl,rfl,hF,hH,hl,ol⟩:=ow.dT_inv
    have hA:=x2.hh _ _ hH
    have fA:F2 ad=none:=x2.nf ad _ hH nofun hF
    have e0:=ol.nil0
    subst e0
    have hp:Pr (Dt X.K ct F2) ds vs:=ol.pr λ_ _ _ _ q=>q.1.mono x2.ff
    obtain⟨us,Gk,CL,Gm⟩:=KH Jh key hl hp
    obtain⟨bd,ws,rfl,hb,Gg⟩:=lj.tup x2.fh
    have hk:=KZ g6 Gg
    subst hk
    refine⟨ad,_,rfl,rW.t hA hb (by rw[hZ,←hl,jX,el];exact hz),?_⟩
    rw[Gk]
    refine z σ F2 _ (pA.change hm x2 hσ b1 dj cf put bF fA (.inr (.dT fA zw CL (ie.ofPr (Gm.mono λ_ _ q=>⟨q,rfl⟩)))) (fn:=[ad]) (by simp) ?_)
    intro a ha
    rw[cj]at ha
    subst ha
    exact .inl bF
   ·rw[if_neg hz]at g7;cases g7
  |_=>cases g5
 |_=>cases g5
noncomputable def Dg (K:bG):V->V->Hp->VK->Prop:=λo i H Q=>∃p xs k v,o=.ref p/\i=.int k/\gp K H p xs/\atI xs k=some v/\Q v H
theorem P9:Ca X (Dg X.K):=by
 intro bH s σ H o i ov iv Q I ro ri h
 obtain⟨p,xs,k,z,rfl,rfl,hq,he,q⟩:=h
 cases ro
 obtain⟨t,rfl⟩:=ri
 obtain⟨df,r,pl,hz⟩:=I.list hq
 obtain⟨j,h1,h2,h3,h4,h5⟩:=EQ he
 obtain⟨w,ew,vG⟩:=r.get h2
 have hl:=r.length
 have hn:=mP
 have fin:EP X bH σ Q w s:=⟨z,H,I,vG,q⟩
 by_cases h0:0<=k
 ·have hj:k.toNat=j:=by
   rw[qQ h0 h5]at h1
   exact Option.some.inj h1
  exact wpAny_getItem_list pl.isList h0 (by omega) (by rw[hj];simpa using ew) fin
 ·have hj:(k+(df.toArray.size:Int)).toNat=j:=by
   rw[pN (by omega) h4]at h1
   rw[cm,←hl]
   exact Option.some.inj h1
  exact wpAny_getItem_list_neg pl.isList (by omega) (by rw[cm]<;>omega) (by omega) (by rw[hj];simpa using ew) fin
noncomputable def sg (i:Nat)(fj:EF)(gi:Int->Int->Int)(f:EF):SF:=λρ=>(eV i ρ).bind λo=>(fj ρ).bind λj=>(f ρ).bind λy=>match o,j with
 |.lst ds,.int z=>(atI ds z).bind λx=>(match x,y with
  |.int a,.int b=>(pH ds z (.int (gi a b))).bind λsR=>some (.nx (ρ.set i (some (.lst sR))))
  |_,_=>none)
 |_,_=>none
theorem Li (i:Nat){j:Expr}{gi:Int->Int->Int}(ho:BB X op (Ee gi))(hm:ms[i]?=some (.ow 1))(hj:XE X ct ms n j fj)(he:XE X ct ms m e f)(hN:X.N[i]?=some x:=by rfl)(hv:rY X.env.scope x:=by first|exact Or.inl rfl|exact Or.inr (Or.inl rfl)|exact Or.inr (Or.inr rfl))(hd:(x==("__debug__":Str))=false:=by decide)
  (kJ:(x==("__classdict__":Str))=false:=by decide) (ha:∀ov iv new,augStore j ov iv new=(do gh [new,ov,iv] (rS ov iv new);release [new,ov,iv] [];pure .next):=by intros;rfl) :
  XS X ct ms rk (.AugAssign (.Subscript (.Name x p1) j mQ) op e pos) (sg i fj gi f):=by
 obtain⟨t,pt,qt⟩:=he
 obtain⟨tj,Dd,De⟩:=hj
 refine⟨_,Rh (wj hN hv hd kJ) Dd P9 pt ho Kw ha,λF0 B F H ρ σ o E rs e z=>?_⟩
 obtain⟨d1,Au,g3,g4,g5⟩:=eM e
 obtain⟨d2,g6,g7⟩:=ck g5
 obtain⟨f1,fr,n1,b1,dj,i4,cf,put⟩:=rs.put (F':=F) (H':=H) hm
 obtain⟨v,hσ,ow⟩:=i4 d1 (zt g3)
 refine⟨v,hσ,De F0 B F H ρ σ Au _ rs g4 λvj F2 H2 x2 lj=>?_⟩
 cases d1<;>try (cases g7;done)
 rename_i ds
 cases Au<;>try (cases g7;done)
 rename_i zi
 ·skip
  dsimp only at g7
  obtain⟨da,g8,g9⟩:=ck g7
  obtain⟨ad,vs,Cj,rfl,rfl,hF,hH,ol⟩:=ow.lst_inv
  have hA:H2 ad=some (.lst vs):=x2.hh _ _ hH
  have hp:Pr (Al X.K ct F2 H2 0) ds vs:=ol.pr λ_ _ _ _ q=>q.1.mono x2.ff
  obtain⟨va,Ni,Nj⟩:=hp.atI g8
  refine⟨ad,vs,zi,va,rfl,lj.int,gp.of hA,Ni,qt F0 B F2 H2 ρ σ d2 _ (rs.ext x2) g6 λvy F3 H3 x3 ly=>?_⟩
  have sJ:=x2.trans x3
  cases da<;>try (cases g9;done)
  rename_i ia
  cases d2<;>try (cases g9;done)
  rename_i ib
  ·skip
   dsimp only at g9
   obtain⟨sR,M2,M3⟩:=ck g9
   cases M3
   obtain⟨jn,M4,M5⟩:=ck M2
   cases M5
   have Nc:H3 ad=some (.lst vs):=x3.hh _ _ hA
   have fA:F3 ad=none:=sJ.nf ad _ hH nofun hF
   have e0:=ol.nil0
   subst e0
   refine⟨ia,ib,Nj.int,ly.int,ad,vs,zi,jn,rfl,lj.int,Nc,by rw[←ol.length];exact M4,?_⟩
   refine z σ F3 _ (rs.change hm sJ hσ b1 dj cf put bF fA (.inr (.lst fA zw (ie.set0 ⟨.int _,rfl⟩ (λ_ _ _ q=>q.2) jn (ol.mono λ_ _ _ _ q=>⟨q.1.mono sJ.ff,q.2⟩)))) (fn:=[ad]) (by simp) ?_)
   intro a ha
   rw[cj]at ha
   subst ha
   exact .inl bF
structure Ic (K:bG)(C:bI):Prop where
 cl:ma K C
 ha:dD K (.ref C) "__class__"=some (some (.builtin "object.__class__"))
 hn:gx K (.builtin "object.__class__") "__get__"=some (some (.builtin "getset_descriptor.__get__"))
 ht:nZ K (.builtin "object.__class__")=some true
 hm:mq K C (.type "object")=some true
noncomputable def tM (all sub:List Nat):D->Option D
 |.obj c _ _=>if all.contains c=true then some (.bl (sub.contains c))else none
 |_=>none
theorem EU {all sub:List Nat}(hI:∀c∈all,Ic X.K (ct c)/\eX X.K (.ref (ct c)) (.ref C)=some (sub.contains c))(hm:X.mg "isinstance"=none)(D5:X.mg x=some (.ref C))(he:XE X ct ms n e f)(hg:Gl X "isinstance":=by rfl)(xV:Gl X x:=by rfl)(hd2:(x==("__debug__":Str))=false:=by decide)
  (A6:bK [e,.Name x p2] X.env=(false,cO e X.env)::bK [.Name x p2] X.env:=by rfl) (qJ:bK [.Name x p2] X.env=(false,cO (.Name x p2) X.env)::bK [] X.env:=by rfl) (jM:(dq pos (bK [.Name x p2] X.env)).any (·.1)=false:=by rfl) :
  XE X ct ms k (.Call (.Name "isinstance" pp) [e,.Name x p2] [] pos) (e1 (tM all sub) f):=by
 obtain⟨t,pt,qt⟩:=he
 refine⟨_,Hk P0 hg hm uh (yw pt (yw (HB (v:=.ref C) xV D5 rfl hd2) ug qJ) A6) (by decide) (by decide) A6 jM,λF0 B F H ρ σ d Q rs e w=>?_⟩
 obtain⟨d1,h1,h2⟩:=ck e
 refine qt F0 B F H ρ σ d1 _ rs h1 λv F' H' x l=>?_
 cases d1 with
 |obj c ns ds=>
  unfold tM at h2
  dsimp only at h2
  by_cases hc:all.contains c=true
  ·rw[if_pos hc]at h2
   cases h2
   obtain⟨a,dx,vs,rfl,ha,_⟩:=l.obj x.fh
   obtain⟨ic,NP⟩:=hI c (by simpa using hc)
   exact⟨_,C,_,_,rfl,.ins ha ic.cl ic.ha ic.hn ic.ht ic.hm,NP,w _ F' H' x (Al.of (.bl _))⟩
  ·rw[if_neg hc]at h2;cases h2
 |_=>cases h2
section
open PySem PySem.Spec L2
noncomputable def cE (i:Int):Str:=((toString i:String):Str)
noncomputable def nr:List D->Option D
 |[.int i]=>if i.natAbs.log2<1920 then some (.str (cE i))else none
 |_=>none
theorem x8:wJ K ct [n] k (λxs H Q=>∃i,xs=[.int i]/\i.natAbs.log2<1920/\Q (.str (toString i)) H) nr:=by
 intro F H vs ds d Q s l e w
 cases l with
 |cons h t=>
  cases t
  rename_i d1 v
  cases d1 with
  |int i=>
   unfold nr at e
   dsimp only at e
   by_cases hz:i.natAbs.log2<1920
   ·rw[if_pos hz]at e
    cases e
    exact⟨i,by rw[h.int],hz,w _ F H (.refl s) (Al.of (.str _))⟩
   ·rw[if_neg hz]at e;cases e
  |_=>cases e
theorem yo (s:String):cx.strOk (s:Str)=true:=by
 unfold cx.strOk
 rw[←vO,fS]
 intro x hx
 rw[decide_eq_true_iff]
 show x<0x110000
 rw[Str.ofString_eq_toList]at hx
 simp at hx
 obtain⟨c,_,rfl⟩:=hx
 have h:=c.valid
 rcases h with h|⟨h1,h2⟩
 ·have:c.val.toNat<0xd800:=h
  show c.val.toNat<_
  omega
 ·exact h2
theorem HW (i:Int):cx.strOk (cE i)=true:=yo _
theorem LY (hx:cx.strOk x=true)(hy:cx.strOk y=true):cx.strOk (x++y)=true:=by
 unfold cx.strOk at *
 show(x.cps++y.cps).all _=true
 rw[Array.all_append,hx,hy];rfl
noncomputable def Es:mr {x:Str // cx.strOk x=true}:=⟨λx=>.str x.1,λx=>.str x.1,0,λ_=>by simp[D.py],λx=>by simp only[cx.canLay0];exact x.2,λ_=>by simp[cx.depth],λx y=>by
 show(x.1==y.1)=_
 by_cases h:x=y
 ·subst h;simp
 ·have:x.1≠y.1:=λz=>h (Subtype.ext z)
  simp[h,this]⟩
theorem xb (hx:cx.strOk x=true)(hy:cx.strOk y=true):fR neg (.str x) (.str y)=some (.bl (if neg then !decide (x=y)else decide (x=y))):=by
 have:=Es.eq (by decide) (neg:=neg) ⟨x,hx⟩ ⟨y,hy⟩
 simpa[Es]using this
theorem yq (x y:Str):(x++y).length=x.length+y.length:=by
 show(x.cps++y.cps).size=_
 rw[Array.size_append];rfl
end
noncomputable def Bi (K:bG):V->List V->Hp->VK->Prop:=λx vs H Q=>∃p ys y j,x=.ref p/\vs=[y]/\gp K H p ys/\kI y=true/\ys.all kI=true/\ys.findIdx? (λz=>uY z y)=some j/\Q (.int (j:Nat)) H
theorem Lj:∀{xs:List V} {us:List bC} {x:V},c8 xs us->xs.all kI=true->us.map (rG x)=xs.map λy=>uY y x
 |_,_,_,.nil,_=>rfl
 |y::xs,u::us,x,.cons r t,f=>by
  rw[fL,cw]at f
  rw[cn,cn,HQ r f.1,Lj t f.2]
theorem QT:DT X "list.index" (Bi X.K):=by
 intro bH s σ H x vs v us Q I rx rv h
 obtain⟨p,ys,y,j,rfl,rfl,hq,fy,fs,hj,q⟩:=h
 cases rx
 obtain⟨u,rfl,ru⟩:=rv.one
 obtain⟨df,r,pl,hz⟩:=I.list hq
 obtain⟨⟨cls,dd,data,sl⟩,ho,hc,n,hd⟩:=pl.isList
 simp only at hc hd
 subst hc hd
 have hm:=Lj (x:=y) r fs
 have hJ:=r.length
 obtain⟨j1,j2,j3⟩:=ny.mp hj
 have II:∀i (hi:i<df.length),rG y df[i]=uY (ys[i]'(by omega)) y:=λi hi=>by
  have:=congrArg (λl=>l[i]?) hm
  simp only[c9]at this
  rw[cz hi,cz (by omega)]at this
  simpa using this
 have VH:ys.length<=16777216:=hz
 refine kP PySem.F.slot_list_index ⟨_,ho,rfl⟩ PySem.F.entry_list_index (PySem.F.args_list_index_2 _ _)
  (SeqAt.list_indexAt p df.toArray n dd sl u (rG y) j (by simp;omega) (by omega) ?_ ?_) ⟨ho,λw hw=>vf ru fy r fs w (by simpa using hw),.int (j:Nat),H,I.tok _,⟨_,rfl⟩,q⟩
 ·simp only[sV];rw[II j (by omega)];exact j2
 ·intro i hi o7
  simp only[sV]
  rw[II i (by simpa using hi)]
  simpa using j3 i o7
noncomputable def uZ:D->D->Option D
 |.lst ds,x=>if x.sc=true/\ds.all D.sc=true then(ds.findIdx? λy=>Ci y x).bind λj=>some (.int (j:Nat))else none
 |_,_=>none
theorem LZ {x:D}(hx:x.sc=true):∀{ds:List D},ds.all D.sc=true->(ds.map D.v).findIdx? (λz=>uY z x.v)=ds.findIdx? λy=>Ci y x
 |[],_=>rfl
 |d::ds,h=>by
  rw[fL,cw]at h
  rw[cn,uN,uN,Mh h.1 hx,LZ hx h.2]
theorem Hr (ho:XE X ct ms n o f)(he:XE X ct ms m e g)(mj:bK [e] X.env=(false,cO e X.env)::bK [] X.env:=by rfl)
  (m7:fB o "index" X.env (cO o X.env)=cO o X.env:=by rfl)
  (qU:((dq gE (bK [e] X.env)).all (λx=>!x.1)&&(gk gE (ek [] X.env)).all (λx=>x.1.isSome)
   && decide ([e].length+([]:List lz).length+(if([]:List lz).isEmpty then 0 else 1)<30))=true:=by rfl)
  (m8:(fT.endLine==gE.line)=true:=by rfl) (kX:(dq gE (bK [] X.env)).any (·.1)=false:=by rfl) :
  XE X ct ms k (.Call (.Attribute o "index" fT) [e] [] gE) (e2 uZ f g):=by
 obtain⟨ta,pa,qa⟩:=ho
 obtain⟨tb,pb,qb⟩:=he
 refine⟨_,Fc PySem.F.plainAttrs_list PySem.F.slot_list_index PySem.F.type_list_index QT pa (yw pb ug mj) m7 qU m8 mj kX,λF0 B F H ρ σ d Q rs e w=>?_⟩
 obtain⟨d1,d2,h1,h2,h3⟩:=eM e
 refine qa F0 B F H ρ σ d1 _ rs h1 λv1 F1 H1 x1 l1=>?_
 cases d1 with
 |lst ds=>
  unfold uZ at h3
  dsimp only at h3
  by_cases hz:d2.sc=true/\ds.all D.sc=true
  ·rw[if_pos hz]at h3
   obtain⟨j,hj,h4⟩:=ck h3
   cases h4
   obtain⟨p,vs,rfl,hp,D9⟩:=l1.lst x1.fh
   refine⟨.inl ⟨rfl,_,hp⟩,qb F0 B F1 H1 ρ σ d2 _ (rs.ext x1) h2 λv2 F2 H2 x2 l2=>?_⟩
   have hv:=D9.vs hz.2
   subst hv
   have hx:=Al.v l2 hz.1
   subst hx
   exact⟨p,_,_,j,rfl,rfl,x2.hh.seq hp,D.flat hz.1,uk hz.2,by rw[LZ hz.1 hz.2];exact hj,w _ F2 H2 (x1.trans x2) (Al.of (.int _))⟩
  ·rw[if_neg hz]at h3;cases h3
 |_=>cases h3
theorem Pq {sI:mZ}
  (hm:ms[i]?=some (.ow k)) (hN:X.N.Nodup) (Cz:X.N[i]?=some x) (hx:Loc X.env.scope x)
  (B:mD X scope N own cap) (hc:X.calm=true) (ho:om.length=own) (oX:∀i∈cap,i<ms.length) (hi:An X ct ms n tg iter fi)
  (hg:∀cl C fp s₀ H₀,xS (lC X scope cl N C fp s₀ H₀) ct (om++iI ms cap) own n tg gg) (ht:∀cl C fp s₀ H₀,Ap (lC X scope cl N C fp s₀ H₀) ct (om++iI ms cap) ifs p) (he:∀cl C fp s₀ H₀,XO (lC X scope cl N C fp s₀ H₀) ct (om++iI ms cap) (k-1) mV f)
  (yV:eI (.ListComp mV [⟨tg,iter,ifs,0⟩] scope pos) (some (.Name x pos')) sI.line X.env=pure true:=by rfl)
  (hs:∀x,ed iter X.env x=pure x:=by intro _;rfl) (hf:X.fn x=true\/X.env.scope.names.lookup x=some .local:=by first|exact .inl rfl|exact .inr rfl|assumption) :
  XS X ct ms rk (.Assign [.Name x pos'] (.ListComp mV [⟨tg,iter,ifs,0⟩] scope pos) sI) (sSet i (gK fi own cap gg p f)):=by
 obtain⟨wi,g,tt,te,pi,kg,pg,pt,pe,q⟩:=Kz (k:=k-1) (pos:=pos) B hc ho oX hi hg ht he
 refine⟨_,Pl B hc pi kg pg pt pe hN Cz hx yV hs hf,λF0 B F H ρ σ o E rs e w=>?_⟩
 obtain⟨d,h1,h2⟩:=ck e
 cases h2
 cases k with
 |succ k=>exact q F0 B F H ρ σ d _ rs h1 λv F' H' fp x l nd hf=>w _ F' H' (rs.set hm x l nd hf)
 |zero=>
  refine q F0 B F H ρ σ d _ rs h1 λv F' H' fp x l nd hf=>?_
  obtain⟨F2,x2,l2⟩:=l.freeze x hf
  exact w _ F2 H' (rs.set hm x2 (Ow.zero l2) cQ λa z=>by cases z)
theorem Lk (hm:ms[i]?=some (.ow k))(hN:X.N[i]?=some x:=by rfl)(hv:rY X.env.scope x:=by first|exact Or.inl rfl|exact Or.inr (Or.inl rfl)|exact Or.inr (Or.inr rfl))(hd:(x==("__debug__":Str))=false:=by decide)
  (kJ:(x==("__classdict__":Str))=false:=by decide):XS X ct ms 0 (.Return (some (.Name x pos')) pos) (sRet (eV i)):=by
 refine⟨_,DD (wj hN hv hd kJ),λF0 B F H ρ σ o E rs e w=>?_⟩
 obtain⟨d,h1,h2⟩:=ck e
 cases h2
 obtain⟨fp,sl,nd,hb⟩:=rs.sl
 obtain⟨f1,fr,i1,i2,i3,i4,i5⟩:=sl.put hm
 obtain⟨v,BO,l⟩:=i4 d (zt h1)
 obtain⟨F',x,l2⟩:=l.freeze (⟨rs.f0,rs.bh,rs.fh,rs.nf⟩:iU F0 B F H) (λz hz=>hb z (i1 z hz))
 exact⟨v,BO,w v F' H [] x.ff x.hh x.fh x.nf (Ow.zero l2) cQ λz hz=>by cases hz⟩
theorem Uj (hu:X.A.units+1<ox)(ha:XE X ct ms n a f)(hb:XE X ct ms m b g)(hm:dU .In b=false):XT X ct ms (.Compare a [.In] [b] pos) (tb λρ=>(f ρ).bind λx=>(g ρ).bind λy=>(uE y x).bind λr=>some (.bl r.isSome)):=by
 obtain⟨ta,VP,pa,pb,q⟩:=ha.bin hb
 refine⟨_,HL (TK hu pa pb) hm,λF0 B F H ρ σ t Q rs e w=>?_⟩
 obtain⟨d0,h0,h9⟩:=ck e
 obtain⟨d1,d2,h1,h2,h3⟩:=eM h0
 obtain⟨r,h4,h5⟩:=ck h3
 cases h5
 cases h9
 refine q F0 B F H ρ σ d1 d2 _ rs h1 h2 λx y F' H' x1 l1 l2=>?_
 obtain⟨a,o,rfl,g,_,h⟩:=R7 (r:=r) x1.fh l2 l1 h4
 refine⟨a,o,rfl,g,?_⟩
 cases r with
 |none=>rw[h.none_of];exact⟨_,rfl,w F' H' x1⟩
 |some d=>obtain⟨u,rfl,D8⟩:=h.some_of;exact⟨_,rfl,w F' H' x1⟩
theorem SL.fz (h0:SL K ct F B H ms ρ σ fp)(s:cR F H):fp.Nodup->ms[i]?=some (.ow k)->∃f1:List bI,(∀a∈f1,a∈fp) /\
  ∃ke,SL K ct (ku F H f1) B H (ms.set i (.ow 0)) ρ σ ke/\ke.Nodup/\∀a∈ke,a∈fp/\a∉f1:=by
 induction h0 generalizing i with
 |nil=>
  intro _ e
  simp at e
 |@no m0 o0 ms ρ σ fp t ih=>
  intro nd e
  cases i with
  |zero=>
   obtain⟨w1,w2,w3⟩:=xk (F:=F) (H:=H) (fp:=[]) s (λa z=>by cases z)
   exact⟨[],λa z=>(by cases z),fp,.no (t.frame w1 λa z=>⟨rfl,by unfold ku;rw[if_neg (by simp)];exact(t.cells a z).1⟩),nd,λa z=>⟨z,by simp⟩⟩
  |succ i=>
   obtain⟨f1,h1,ke,q1,q2,q3⟩:=ih (i:=i) nd (by simpa using e)
   exact⟨f1,h1,ke,.no q1,q2,q3⟩
 |@al n0 d0 v0 ms ρ σ fp h t ih=>
  intro nd e
  cases i with
  |zero=>
   simp at e
  |succ i=>
   obtain⟨f1,h1,ke,q1,q2,q3⟩:=ih (i:=i) nd (by simpa using e)
   obtain⟨w1,w2,w3⟩:=xk (F:=F) (H:=H) (fp:=f1) s (λa z=>(t.cells a (h1 a z)).1)
   exact⟨f1,h1,ke,.al (h.mono w1 (.refl _)) q1,q2,q3⟩
 |@px d0 v0 ms ρ σ fp h t ih=>
  intro nd e
  cases i with
  |zero=>
   simp at e
  |succ i=>
   obtain⟨f1,h1,ke,q1,q2,q3⟩:=ih (i:=i) nd (by simpa using e)
   obtain⟨w1,w2,w3⟩:=xk (F:=F) (H:=H) (fp:=f1) s (λa z=>(t.cells a (h1 a z)).1)
   exact⟨f1,h1,ke,.px (h.mono w1 (.refl _)) q1,q2,q3⟩
 |@so d0 x ms ρ σ fp h t ih=>
  intro nd e
  cases i with
  |zero=>
   simp at e
  |succ i=>
   obtain⟨n1,n2⟩:=cX.mp nd
   obtain⟨f1,h1,ke,q1,q2,q3⟩:=ih (i:=i) n2 (by simpa using e)
   obtain⟨w1,w2,w3⟩:=xk (F:=F) (H:=H) (fp:=f1) s (λa z=>(t.cells a (h1 a z)).1)
   refine⟨f1,λa z=>bJ _ (h1 a z),x::ke,.so (h.frame w1 λa z=>⟨rfl,?_⟩) q1,cX.mpr ⟨λz=>n1 (q3 x z).1,q2⟩,λa z=>?_⟩
   ·rw[cj]at z
    unfold ku
    rw[if_neg λq=>n1 (z▸h1 a q)]
    exact(h.cells a (by rw[z];exact bF)).1
   ·rcases bL.mp z with z|z
    ·exact⟨z▸bF,λq=>n1 (z▸h1 a q)⟩
    ·exact⟨bJ _ (q3 a z).1,(q3 a z).2⟩
 |@ow n0 d0 v0 ms ρ σ f fp h t ih=>
  intro nd e
  cases i with
  |zero=>
   obtain⟨w1,w2,w3⟩:=xk (F:=F) (H:=H) (fp:=f) s (λa z=>(h.cells a z).1)
   obtain⟨n1,n2,n3⟩:=cI.mp nd
   refine⟨f,λa z=>cG _ z,[]++fp,.ow ⟨h.dt w1 w3,rfl⟩ (t.frame w1 λa z=>⟨rfl,?_⟩),n2,λa z=>⟨bZ _ z,λq=>n3 a q a z rfl⟩⟩
   unfold ku
   rw[if_neg λq=>n3 a q a z rfl]
   exact(t.cells a z).1
  |succ i=>
   obtain⟨n1,n2,n3⟩:=cI.mp nd
   obtain⟨f1,h1,ke,q1,q2,q3⟩:=ih (i:=i) n2 (by simpa using e)
   obtain⟨w1,w2,w3⟩:=xk (F:=F) (H:=H) (fp:=f1) s (λa z=>(t.cells a (h1 a z)).1)
   refine⟨f1,λa z=>bZ _ (h1 a z),f++ke,.ow (h.frame w1 λa z=>⟨rfl,?_⟩) q1,cI.mpr ⟨n1,q2,λa z b zb=>n3 a z b (q3 b zb).1⟩,λa z=>?_⟩
   ·unfold ku
    rw[if_neg λq=>n3 a z a (h1 a q) rfl]
    exact(h.cells a z).1
   ·rcases cL.mp z with z|z
    ·exact⟨cG _ z,λq=>n3 a z a (h1 a q) rfl⟩
    ·exact⟨bZ _ (q3 a z).1,(q3 a z).2⟩
theorem SL.forget (m':Mo)(i:Nat)(h0:SL K ct F B H ms ρ σ fp):∃ke,SL K ct F B H (ms.set i m') (ρ.set i none) σ ke/\ke.Sublist fp:=by
 induction h0 generalizing i with
 |nil=>
  exact⟨[],.nil,.refl _⟩
 |@no m0 o0 ms ρ σ fp t ih=>
  cases i with
  |zero=>
   exact⟨fp,.no t,.refl _⟩
  |succ i=>
   obtain⟨ke,q1,q2⟩:=ih i
   exact⟨ke,.no q1,q2⟩
 |@al n0 d0 v0 ms ρ σ fp h t ih=>
  cases i with
  |zero=>
   exact⟨fp,.no t,.refl _⟩
  |succ i=>
   obtain⟨ke,q1,q2⟩:=ih i
   exact⟨ke,.al h q1,q2⟩
 |@px d0 v0 ms ρ σ fp h t ih=>
  cases i with
  |zero=>
   exact⟨fp,.no t,.refl _⟩
  |succ i=>
   obtain⟨ke,q1,q2⟩:=ih i
   exact⟨ke,.px h q1,q2⟩
 |@so d0 x ms ρ σ fp h t ih=>
  cases i with
  |zero=>
   exact⟨fp,.no t,List.sublist_cons_self _ _⟩
  |succ i=>
   obtain⟨ke,q1,q2⟩:=ih i
   exact⟨_,.so h q1,q2.cons₂ _⟩
 |@ow n0 d0 v0 ms ρ σ f fp h t ih=>
  cases i with
  |zero=>
   exact⟨fp,.no t,List.sublist_append_right _ _⟩
  |succ i=>
   obtain⟨ke,q1,q2⟩:=ih i
   exact⟨_,.ow h q1,(List.Sublist.refl _).append q2⟩
theorem RS.fz (rs:RS K ct F0 B ms F H ρ σ)(hm:ms[i]?=some (.ow k)):∃F',RS K ct F0 B (ms.set i (.ow 0)) F' H ρ σ:=by
 obtain⟨fp,sl,nd,hb⟩:=rs.sl
 obtain⟨f1,h1,ke,q1,q2,q3⟩:=sl.fz rs.fh nd hm
 obtain⟨w1,w2,w3⟩:=xk (F:=F) (H:=H) (fp:=f1) rs.fh (λa z=>(sl.cells a (h1 a z)).1)
 refine⟨ku F H f1,rs.f0.trans w1,rs.bh,w2,λa o ho nt hn=>?_,ke,q1,q2,λa z=>hb a (q3 a z).1⟩
 have:¬a∈f1:=λz=>by rw[hb a (h1 a z)]at ho;cases ho
 unfold ku;rw[if_neg this];exact rs.nf a o ho nt hn
theorem RS.forget (m':Mo)(i:Nat)(rs:RS K ct F0 B ms F H ρ σ):RS K ct F0 B (ms.set i m') F H (ρ.set i none) σ:=by
 obtain⟨fp,sl,nd,hb⟩:=rs.sl
 obtain⟨ke,q1,q2⟩:=sl.forget m' i
 exact⟨rs.f0,rs.bh,rs.fh,rs.nf,ke,q1,q2.nodup nd,λa z=>hb a (q2.subset z)⟩
noncomputable def xD (i:Nat):Out->Out
 |.nx ρ=>.nx (ρ.set i none)
 |.rt d=>.rt d
 |.bk ρ=>.bk (ρ.set i none)
 |.ct ρ=>.ct (ρ.set i none)
noncomputable def sFz (i:Nat)(u:SF):SF:=λρ=>(u ρ).bind λo=>some (xD i o)
theorem JN (hm:ms[i]?=some (.ow k)):(ms.set i (.ow 0)).set i (.ow k)=ms:=by
 rw[List.set_set]
 apply nF
 intro j
 rw[vR]
 split
 ·next h=>
  subst h
  rw[hm]
  have:=(cB.mp hm).1
  rw[if_pos this]
 ·rfl
theorem UU {t:nG->St->Hp->Prop}(hm:ms[i]?=some (.ow k))
  (q:∀(F0 B F H:Hp) (ρ:Env) (σ:St) (o:Out) (E:nG),RS X.K ct F0 B (ms.set i (.ow 0)) F H ρ σ->w ρ=some o->n8 X.K ct F0 B (ms.set i (.ow 0)) rk E o->t E σ H)
  (F0 B F H:Hp) (ρ:Env) (σ:St) (o:Out) (E:nG) (rs:RS X.K ct F0 B ms F H ρ σ) (e:sFz i w ρ=some o) (z:n8 X.K ct F0 B ms rk E o):t E σ H:=by
 obtain⟨F',r2⟩:=rs.fz hm
 obtain⟨o1,e1,e2⟩:=ck e
 refine q F0 B F' H ρ σ o1 E r2 e1 ?_
 have back:∀{ρ':Env} {σ':St} {F2 H2:Hp},RS X.K ct F0 B (ms.set i (.ow 0)) F2 H2 ρ' σ'->RS X.K ct F0 B ms F2 H2 (ρ'.set i none) σ':=λr=>by
  have:=r.forget (.ow k) i
  rw[JN hm]at this
  exact this
 cases o1 with
 |nx ρ'=>cases e2;exactλσ' F2 H2 r=>z σ' F2 H2 (back r)
 |rt d=>cases e2;exact z
 |bk ρ'=>cases e2;exactλσ' F2 H2 r=>z σ' F2 H2 (back r)
 |ct ρ'=>cases e2;exactλσ' F2 H2 r=>z σ' F2 H2 (back r)
theorem Uk {dW:List dH}(hm:ms[i]?=some (.ow k))(h:rF X ct (ms.set i (.ow 0)) rk dW w):rF X ct ms rk dW (sFz i w):=by
 obtain⟨t,pt,qt⟩:=h
 exact⟨t,pt,UU hm qt⟩
theorem zbl:xD i (.rt d)=.rt d:=rfl
theorem zbm:xD i (.nx ρ)=.nx (ρ.set i none):=rfl
noncomputable def oJ:List D->List D->List D
 |x::xs,y::ys=>.tup [x,y]::oJ xs ys
 |_,_=>[]
theorem KJ:∀{xs ys:List D} {i:Nat} {d:D},(oJ xs ys)[i]?=some d->∃x y,xs[i]?=some x/\ys[i]?=some y/\d=.tup [x,y]
 |[],_,_,_,h=>by simp[oJ]at h
 |_::_,[],_,_,h=>by simp[oJ]at h
 |x::xs,y::ys,0,d,h=>by simp[oJ]at h;subst h;exact⟨x,y,rfl,rfl,rfl⟩
 |x::xs,y::ys,i+1,d,h=>by
  obtain⟨u,v,h1,h2,h3⟩:=KJ (xs:=xs) (ys:=ys) (i:=i) (d:=d) (by simpa[oJ]using h)
  exact⟨u,v,by simpa using h1,by simpa using h2,h3⟩
theorem KM:∀{xs ys:List D},(oJ xs ys).length=min xs.length ys.length
 |[],_=>by simp[oJ]
 |_::_,[]=>by simp[oJ]
 |x::xs,y::ys=>by simp[oJ,KM (xs:=xs) (ys:=ys)]
noncomputable def kg (p q:Nat)(rv:Bool)(us ws:List α):List α:=if us.length=p/\ws.length=q then us++(if rv then ws.reverse else ws)else[]
noncomputable def kY:D->Bool
 |.lst _=>true
 |.dK _ _=>true
 |.dT _ _=>true
 |.obj _ _ _=>true
 |_=>false
theorem Ow.cell {v:V}(h:Ow K ct F H 1 d v fp)(hc:kY d=true):∃a,v=.ref a/\fp=[a]:=by
 cases d with
 |lst ds=>obtain⟨a,vs,fr,rfl,rfl,_,_,ol⟩:=h.lst_inv;have e0:=ol.nil0;subst e0;exact⟨_,rfl,rfl⟩
 |dK ks ds=>obtain⟨a,vs,fr,rfl,rfl,_,_,_,ol⟩:=h.dK_inv;have e0:=ol.nil0;subst e0;exact⟨_,rfl,rfl⟩
 |dT ks ds=>obtain⟨a,vs,fr,rfl,rfl,_,_,_,ol⟩:=h.dT_inv;have e0:=ol.nil0;subst e0;exact⟨_,rfl,rfl⟩
 |obj c ns ds=>obtain⟨a,dx,vs,fr,rfl,rfl,_,_,_,ol⟩:=h.obj_inv;have e0:=ol.nil0;subst e0;exact⟨_,rfl,rfl⟩
 |_=>cases hc
theorem SL.putS {x:bI}(h0:SL K ct F B H ms ρ σ fp):fp.Nodup->ms[i]?=some (.so x)->ρ[i]?=some (some d) ->
  σ[i]?=some (some (.ref x))/\Ow K ct F H 1 d (.ref x) [x]/\x∈fp/\∀(F' H':Hp) (d':D),cR F F'->(∀a∈fp,a≠x->H' a=H a/\F' a=none)->Ow K ct F' H' 1 d' (.ref x) [x]->SL K ct F' B H' ms (ρ.set i (some d')) σ fp:=by
 induction h0 generalizing i with
 |nil=>
  intro _ e _
  simp at e
 |@no m0 o0 ms ρ σ fp t ih=>
  intro nd e e'
  cases i with
  |zero=>
   have e:=e'
   simp at e
  |succ i=>
   obtain⟨h1,h2,h3,h4⟩:=ih (i:=i) nd (by simpa using e) (by simpa using e')
   exact⟨by simpa using h1,h2,h3,λF' H' d' s k o=>.no (h4 F' H' d' s k o)⟩
 |@al n0 d0 v0 ms ρ σ fp h t ih=>
  intro nd e e'
  cases i with
  |zero=>
   simp at e
  |succ i=>
   obtain⟨h1,h2,h3,h4⟩:=ih (i:=i) nd (by simpa using e) (by simpa using e')
   exact⟨by simpa using h1,h2,h3,λF' H' d' s k o=>.al (h.mono s (.refl _)) (h4 F' H' d' s k o)⟩
 |@px d0 v0 ms ρ σ fp h t ih=>
  intro nd e e'
  cases i with
  |zero=>
   simp at e
  |succ i=>
   obtain⟨h1,h2,h3,h4⟩:=ih (i:=i) nd (by simpa using e) (by simpa using e')
   exact⟨by simpa using h1,h2,h3,λF' H' d' s k o=>.px (h.mono s (.refl _)) (h4 F' H' d' s k o)⟩
 |@so d0 y ms ρ σ Fy h t ih=>
  intro nd e e'
  cases i with
  |zero=>
   simp at e e'
   subst e
   subst e'
   obtain⟨n1,n2⟩:=cX.mp nd
   exact⟨rfl,h,bF,λF' H' d' s k o=>.so o (t.frame s λa z=>k a (bJ _ z) λe=>n1 (e▸z))⟩
  |succ i=>
   obtain⟨n1,n2⟩:=cX.mp nd
   obtain⟨h1,h2,h3,h4⟩:=ih (i:=i) n2 (by simpa using e) (by simpa using e')
   refine⟨by simpa using h1,h2,bJ _ h3,λF' H' d' s k o=>.so (h.frame s λa z=>?_) (h4 F' H' d' s (λa z=>k a (bJ _ z)) o)⟩
   rw[cj]at z
   subst z
   exact k a bF λe=>n1 (e▸h3)
 |@ow n0 d0 v0 ms ρ σ f Fy h t ih=>
  intro nd e e'
  cases i with
  |zero=>
   simp at e
  |succ i=>
   obtain⟨n1,n2,n3⟩:=cI.mp nd
   obtain⟨h1,h2,h3,h4⟩:=ih (i:=i) n2 (by simpa using e) (by simpa using e')
   refine⟨by simpa using h1,h2,bZ _ h3,λF' H' d' s k o=>.ow (h.frame s λa z=>?_) (h4 F' H' d' s (λa z=>k a (bZ _ z)) o)⟩
   exact k a (cG _ z) λe=>n3 a z x h3 e
theorem RS.so_at {ad:bI}(rs:RS K ct F0 B ms F H ρ σ)(hm:ms[i]?=some (.so ad))(hρ:ρ[i]?=some (some d)):σ[i]?=some (some (.ref ad))/\Ow K ct F H 1 d (.ref ad) [ad]/\B ad=none:=by
 obtain⟨fp,sl,nd,hb⟩:=rs.sl
 obtain⟨h1,h2,h3,h4⟩:=sl.putS nd hm hρ
 exact⟨h1,h2,hb _ h3⟩
noncomputable abbrev EM:=Env->Option (D×Env)
noncomputable def tE (X:Cx)(ct:Nat->bI)(ms:List Mo)(st:List dH)(f:EM):Prop:=∃t,tD X st t/\∀(F0 B F H:Hp) (ρ ρ':Env) (σ:St) (d:D) (E:nG),RS X.K ct F0 B ms F H ρ σ->f ρ=some (d,ρ')->(∀v σ' F' H',RS X.K ct F0 B ms F' H' ρ' σ'->Dt X.K ct F' d v->E.rt v H')->t E σ H
noncomputable def mSeq (f:SF)(g:EM):EM:=λρ=>(f ρ).bind λo=>match o with
 |.nx ρ'=>g ρ'
 |_=>none
noncomputable def mRet (f:EF):EM:=λρ=>(f ρ).bind λd=>some (d,ρ)
theorem E8 (he:XE X ct ms 0 e f):tE X ct ms [.Return (some e) pos] (mRet f):=by
 obtain⟨t,pt,qt⟩:=he
 refine⟨_,HC (DD pt),λF0 B F H ρ ρ' σ d E rs e z=>?_⟩
 obtain⟨d',h1,h2⟩:=ck e
 cases h2
 exact qt F0 B F H ρ σ _ _ rs h1 λv F' H' x l=>z v σ F' H' (rs.ext x) l
theorem yr {gm:EM}(h1:XS X ct ms 0 st u)(h2:tE X ct ms rest gm):tE X ct ms (st::rest) (mSeq u gm):=by
 obtain⟨t,pt,qt⟩:=h1
 obtain⟨t2,nh,pY⟩:=h2
 refine⟨_,Kr pt nh,λF0 B F H ρ ρ' σ d E rs e z=>?_⟩
 obtain⟨o1,e1,e2⟩:=ck e
 refine qt F0 B F H ρ σ o1 _ rs e1 ?_
 cases o1 with
 |nx ρ1=>exactλσ' F' H' GR=>pY F0 B F' H' ρ1 ρ' σ' d E GR e2 z
 |rt d=>cases e2
 |bk ρ'=>cases e2
 |ct ρ'=>cases e2
theorem SL.app {Ji:List Mo}{ρ2:Env}{σ2:St}{Iv:List bI}(h2:SL K ct F B H Ji ρ2 σ2 Iv)(h0:SL K ct F B H ms ρ σ fp):SL K ct F B H (ms++Ji) (ρ ++ ρ2) (σ ++ σ2) (fp++Iv):=by
 induction h0 with
 |nil=>
  exact h2
 |@no m0 o0 ms ρ σ fp t ih=>
  exact .no ih
 |@al n0 d0 v0 ms ρ σ fp h t ih=>
  exact .al h ih
 |@px d0 v0 ms ρ σ fp h t ih=>
  exact .px h ih
 |@so d0 x0 ms ρ σ Fy h t ih=>
  exact .so h ih
 |@ow n0 d0 v0 ms ρ σ f0 Fy h t ih=>
  rw[dz]
  exact .ow h ih
theorem SL.none {K:bG}{ct:Nat->bI}{F B H:Hp}:∀(ms:List Mo),SL K ct F B H ms (bQ ms.length none) (bQ ms.length none) []
 |[]=>.nil
 |m::ms=>.no (SL.none ms)
theorem SL.start0 {K:bG}{ct:Nat->bI}{F B H:Hp}:∀{ds:List D} {us:List V},Pr (Dt K ct F) ds us->SL K ct F B H (bQ ds.length (Mo.ow 0)) (ds.map some) (us.map some) []
 |_,_,.nil=>.nil
 |_,_,.cons h t=>SL.ow (f:=[]) (Ow.zero h) (SL.start0 t)
variable {gm:EM}
section
noncomputable def XM (X:Cx)(ct:Nat->bI)(ms:List Mo)(e:Expr)(g:EM):Prop:=∃t,PE X e t/\∀(F0 B F H:Hp) (ρ ρ':Env) (σ:St) (d:D) (Q:VK),RS X.K ct F0 B ms F H ρ σ->g ρ=some (d,ρ')->(∀v F' H',RS X.K ct F0 B ms F' H' ρ' σ->Dt X.K ct F' d v->Q v H')->t σ H Q
theorem QU {v:V}(h:σ[i]?=some (some v)):σ.set i (some v) = σ:=by
 apply nF
 intro k
 rw[vR]
 by_cases e:i=k
 ·subst e
  rw[if_pos rfl]
  by_cases hl:i < σ.length
  ·rw[if_pos hl,h]
  ·rw[if_neg hl,sM (by omega)]
 ·rw[if_neg e]
variable {fd:bW}
theorem vb:∀(ρ:Env) (ds:List D),aNil ρ=some ds->ds.length=0:=λρ ds e=>by cases e;rfl
theorem xr (h:∀(ρ:Env) (ds:List D),fs ρ=some ds->ds.length=n):∀(ρ:Env) (ds:List D),aCons f fs ρ=some ds->ds.length=n+1:=λρ ds e=>by
 obtain⟨x,xs,h1,h2,h3⟩:=eM e
 cases h3
 rw[bM,h ρ xs h2]
noncomputable def sSetM (i:Nat)(g:EM):SF:=λρ=>(g ρ).bind λr=>some (.nx (r.2.set i (some r.1)))
theorem Su (hm:ms[i]?=some (.ow 0))(hN:X.N.Nodup)(hi:X.N[i]?=some x)(hx:Loc X.env.scope x)(he:XM X ct ms e gm)(hs:eI e (some (.Name x pos')) pos.line X.env=pure false:=by rfl)
  (hf:X.fn x=true\/X.env.scope.names.lookup x=some .local:=by first|exact .inl rfl|exact .inr rfl|assumption):XS X ct ms rk (.Assign [.Name x pos'] e pos) (sSetM i gm):=by
 obtain⟨t,pt,qt⟩:=he
 refine⟨_,Lx hN hi hx pt hs hf,λF0 B F H ρ σ o E rs e w=>?_⟩
 obtain⟨⟨d,ρ'⟩,h1,h2⟩:=ck e
 cases h2
 exact qt F0 B F H ρ ρ' σ d _ rs h1 λv F' H' r l=>w _ F' H' (r.set hm (.refl r.fh) (Ow.zero l) cQ λa z=>(by cases z))
end
noncomputable def rJoin (K:bG):V->List V->Hp->VK->Prop:=λx vs H Q=>∃sp p ys,x=.str sp/\vs=[.ref p]/\gp K H p (ys.map V.str)/\(ys.map (·.length)).sum+ys.length*sp.length<=16777216/\Q (.str (PySem.Str.join sp ys)) H
theorem kN:∀{ys:List Str} {us:List bC},c8 (ys.map V.str) us->StrsAre us ys
 |[],_,.nil=>.nil
 |y::ys,_,.cons r t=>by
  obtain⟨tk,rfl⟩:=r
  exact .cons y tk (kN t)
theorem Sv:DT X "str.join" (rJoin X.K):=by
 intro bH s σ H x vs v us Q I rx rv h
 obtain⟨sp,p,ys,rfl,rfl,hq,hl,q⟩:=h
 obtain⟨tk,rfl⟩:=rx
 obtain⟨u,rfl,ru⟩:=rv.one
 cases ru
 obtain⟨df,r,pl,hz⟩:=I.list hq
 refine PyProof.Rows.join_list pl.isList (by simpa using kN r) hl λt' k=>⟨.str (PySem.Str.join sp ys),H,I.tok _,⟨t',?_⟩,q⟩
 have:PySem.Txt.join sp ys=PySem.Str.join sp ys:=PySem.StrLaws.glued_eq_join sp ys
 rw[this]
noncomputable def oh:List D->Option (List Str)
 |[]=>some []
 |.str i::ds=>(oh ds).bind λns=>some (i::ns)
 |_=>none
theorem JO:∀{ds:List D} {ns:List Str},oh ds=some ns->ds=ns.map .str
 |[],_,e=>by cases e;rfl
 |d::ds,ns,e=>by
  cases d with
  |str i=>
   obtain⟨ms,h1,h2⟩:=ck (show(oh ds).bind _=_ from e)
   cases h2
   rw[JO h1];rfl
  |_=>cases e
noncomputable def iJ:D->D->Option D
 |.str sp,.lst ds=>(oh ds).bind λys=>if(ys.map (·.length)).sum+ys.length*sp.length<=16777216 then some (.str (PySem.Str.join sp ys))else none
 |_,_=>none
theorem L0 {F H:Hp}{K:bG}:∀{ys:List Str} {vs:List V},Pr (Al K ct F H n) (ys.map D.str) vs->vs=ys.map V.str
 |[],_,.nil=>rfl
 |y::ys,_,.cons h t=>by
  have q:=Al.scal (F':=F) h rfl
  cases q
  rw[L0 t]
  rfl
theorem wv (ho:XE X ct ms n o f)(he:XE X ct ms m e g)(mj:bK [e] X.env=(false,cO e X.env)::bK [] X.env:=by rfl)
  (m7:fB o "join" X.env (cO o X.env)=cO o X.env:=by rfl)
  (qU:((dq gE (bK [e] X.env)).all (λx=>!x.1)&&(gk gE (ek [] X.env)).all (λx=>x.1.isSome)
   && decide ([e].length+([]:List lz).length+(if([]:List lz).isEmpty then 0 else 1)<30))=true:=by rfl)
  (m8:(fT.endLine==gE.line)=true:=by rfl) (kX:(dq gE (bK [] X.env)).any (·.1)=false:=by rfl) :
  XE X ct ms k (.Call (.Attribute o "join" fT) [e] [] gE) (e2 iJ f g):=by
 obtain⟨ta,pa,qa⟩:=ho
 obtain⟨tb,pb,qb⟩:=he
 refine⟨_,Fc PySem.F.plainAttrs_str PySem.F.slot_str_join PySem.F.type_str_join Sv pa (yw pb ug mj) m7 qU m8 mj kX,λF0 B F H ρ σ d Q rs e w=>?_⟩
 obtain⟨d1,d2,h1,h2,h3⟩:=eM e
 refine qa F0 B F H ρ σ d1 _ rs h1 λv1 F1 H1 x1 l1=>?_
 cases d1 with
 |str sp=>
  cases d2 with
  |lst ds=>
   obtain⟨ys,h4,h5⟩:=ck (show(oh ds).bind _=_ from h3)
   by_cases hz:(ys.map (·.length)).sum+ys.length*sp.length<=16777216
   ·rw[if_pos hz]at h5
    cases h5
    have q1:=Al.scal (F':=F1) l1 rfl
    cases q1
    refine⟨rfl,qb F0 B F1 H1 ρ σ _ _ (rs.ext x1) h2 λv2 F2 H2 x2 l2=>?_⟩
    obtain⟨p,vs,rfl,hp,D9⟩:=l2.lst x2.fh
    rw[JO h4]at D9
    have hv:=L0 D9
    subst hv
    exact⟨sp,p,ys,rfl,rfl,hp,hz,w _ F2 H2 (x1.trans x2) (Al.of (.str _))⟩
   ·rw[if_neg hz]at h5;cases h5
  |_=>cases h3
 |_=>cases h3
variable {kq:Nat}
section
variable {fd:bW}
theorem kG (h:XO X ct ms k e f):XO X ct ms 0 e f:=XE.ow (XO.sh (n:=0) h)
theorem rN (hN:X.N.Nodup)(ho:i<own:=by decide)(hm:ms[i]?=some (.ow 0):=by rfl)(hi:X.N[i]?=some x:=by rfl)(hx:Loc X.env.scope x:=by first|exact Or.inl rfl|exact Or.inr rfl)
  (hf:X.fn x=true\/X.env.scope.names.lookup x=some .local:=by first|exact .inl rfl|exact .inr rfl|assumption):xS X ct ms own 0 (.Name x pos) (gV i):=QL ho hm hN hi hx hf
theorem mX (hN:X.N.Nodup)(he:XO X ct ms k e f)(hm:ms[i]?=some (.ow k):=by rfl)(hi:X.N[i]?=some x:=by rfl)(hx:Loc X.env.scope x:=by first|exact Or.inl rfl|exact Or.inr rfl)
  (hs:eI e (some (.Name x pos')) pos.line X.env=pure false:=by rfl)
  (hf:X.fn x=true\/X.env.scope.names.lookup x=some .local:=by first|exact .inl rfl|exact .inr rfl|assumption):XS X ct ms rk (.Assign [.Name x pos'] e pos) (sSet i f):=Tl hm hN hi hx he hs hf
theorem oI (hN:X.N.Nodup)(hm:ms[i]?=some (.ow 0):=by rfl)(hi:X.N[i]?=some x:=by rfl)(hx:Loc X.env.scope x:=by first|exact Or.inl rfl|exact Or.inr rfl)
  (hf:X.fn x=true\/X.env.scope.names.lookup x=some .local:=by first|exact .inl rfl|exact .inr rfl|assumption):XG X ct ms 0 (.Name x pos) (gV i):=Ro hm hN hi hx hf
theorem l5 (d:kA X.K X.mg x st ps fa fd)(Fn:dm X.prog X.w X.K X.mg X.base fK kk fa fd ps (jB X.K ct ns rk mf))(hr:eG kq X.A)(ha:XA X ct ms (e::es) ns fs)(oZ:kk<=kq:=by decide)(hg:Gl X x:=by rfl)
  (lV:(x==("__debug__":Str))=false:=by decide) (he:bK (e::es) X.env=(false,cO e X.env)::bK es X.env:=by rfl) (jM:(dq pos (bK es X.env)).any (·.1)=false:=by rfl) :
  XO X ct ms rk (.Call (.Name x pp) (e::es) [] pos) (λρ=>(fs ρ).bind λds=>mf (ds++[])) :=
 Rm (ns:=ns) (nd:=[]) (mh:=[]) (by rw[cV];exact Fn) (hr.mono oZ) hg d.mgx d.fn.kp d.bd .nil (λ_ _=>.nil) ha lV he jM
theorem dh {i:Int}{j}:XE X ct ms 0 (.Constant (.int i) j pos) (eC (.int i)):=Ti
theorem AL {j}:XE X ct ms 0 (.Constant .none j pos) (eC .non):=Tj
theorem iA (ha:XE X ct ms 0 a f)(hb:XE X ct ms 0 b g):XO X ct ms 1 (.BinOp a .Add b pos) (e2 cP f g):=UO Se (Sf (by decide) (by decide)) ha hb
theorem iB (ha:XE X ct ms 0 a f)(hb:XE X ct ms 0 b g)(hp:oQ b:=by exactλ_ _=>rfl):XE X ct ms 0 (.Subscript a b pos) (e2 dY f g):=Ma (n:=0) LJ LP ha hb hp
theorem nu (hm:X.mg "len"=none)(ha:XA X ct ms [e] [n] fs)(hg:Gl X "len":=by rfl)(he:bK [e] X.env=(false,cO e X.env)::bK [] X.env:=by rfl)(jM:(dq pos (bK [] X.env)).any (·.1)=false:=by rfl):XE X ct ms 0 (.Call (.Name "len" pp) [e] [] pos) (eN eO fs):=yx (k:=0) PL R8 hg hm TQ ha (by decide) (by decide) he jM
theorem lA0 {P:List bC->Prop}(h:P [])(us:List bC)(e:us.length=0):P us:=by
 cases us with
 |nil=>exact h
 |cons a t=>cases e
theorem lA1 {P:List bC->Prop}(h:∀a1,P [a1])(us:List bC)(e:us.length=1):P us:=by
 cases us with
 |nil=>cases e
 |cons a t=>exact lA0 (P:=λt=>P (a::t)) (h a) t (Nat.succ.inj e)
theorem lA2 {P:List bC->Prop}(h:∀a1 a2,P [a1,a2])(us:List bC)(e:us.length=2):P us:=by
 cases us with
 |nil=>cases e
 |cons a t=>exact lA1 (P:=λt=>P (a::t)) (h a) t (Nat.succ.inj e)
theorem lA3 {P:List bC->Prop}(h:∀a1 a2 a3,P [a1,a2,a3])(us:List bC)(e:us.length=3):P us:=by
 cases us with
 |nil=>cases e
 |cons a t=>exact lA2 (P:=λt=>P (a::t)) (h a) t (Nat.succ.inj e)
theorem lA4 {P:List bC->Prop}(h:∀a1 a2 a3 a4,P [a1,a2,a3,a4])(us:List bC)(e:us.length=4):P us:=by
 cases us with
 |nil=>cases e
 |cons a t=>exact lA3 (P:=λt=>P (a::t)) (h a) t (Nat.succ.inj e)
theorem lA5 {P:List bC->Prop}(h:∀a1 a2 a3 a4 a5,P [a1,a2,a3,a4,a5])(us:List bC)(e:us.length=5):P us:=by
 cases us with
 |nil=>cases e
 |cons a t=>exact lA4 (P:=λt=>P (a::t)) (h a) t (Nat.succ.inj e)
end
inductive MA where
 |ok (d:D)|xc (d:D)
inductive Fm where
 |ok (o:Out)|xc (ρ:Env) (d:D)
noncomputable abbrev UY:=Env->Option Fm
noncomputable def iZ:List D->List D->List D->List D
 |x::xs,y::ys,u::us=>.tup [x,y,u]::iZ xs ys us
 |_,_,_=>[]
theorem Kc:∀{xs ys us:List D} {i:Nat} {d:D},(iZ xs ys us)[i]?=some d->∃x y u,xs[i]?=some x/\ys[i]?=some y/\us[i]?=some u/\d=.tup [x,y,u]
 |[],_,_,_,_,h=>by simp[iZ]at h
 |_::_,[],_,_,_,h=>by simp[iZ]at h
 |_::_,_::_,[],_,_,h=>by simp[iZ]at h
 |x::xs,y::ys,u::us,0,d,h=>by simp[iZ]at h;subst h;exact⟨x,y,u,rfl,rfl,rfl,rfl⟩
 |x::xs,y::ys,u::us,i+1,d,h=>by
  obtain⟨a,b,c,h1,h2,h3,h4⟩:=Kc (xs:=xs) (ys:=ys) (us:=us) (i:=i) (d:=d) (by simpa[iZ]using h)
  exact⟨a,b,c,by simpa using h1,by simpa using h2,by simpa using h3,h4⟩
theorem Ke:∀{xs ys us:List D},(iZ xs ys us).length=min xs.length (min ys.length us.length)
 |[],_,_=>by simp[iZ]
 |_::_,[],_=>by simp[iZ]
 |_::_,_::_,[]=>by simp[iZ]
 |x::xs,y::ys,u::us=>by simp only[iZ,bM,Ke (xs:=xs) (ys:=ys) (us:=us)];omega
theorem Ul {a b c:bI}{vs ws:List V}{es fs:List D}(hp:Pr (Al K ct F B n) ds vs)(A0:Pr (Al K ct F B n) es us)(D7:Pr (Al K ct F B n) fs ws)(keep:∀F' H',cR F F'->cR B H'->cR F' H'->gp K H' a vs)(CV:∀F' H',cR F F'->cR B H'->cR F' H'->gp K H' b us)(CW:∀F' H',cR F F'->cR B H'->cR F' H'->gp K H' c ws):uW K ct F B (n+1) (Fi K a b c) (iZ ds es fs):=by
 intro i F' H' s1 s2 s3
 have hs:gp K H' a vs:=keep F' H' s1 s2 s3
 have yU:gp K H' b us:=CV F' H' s1 s2 s3
 have qJ:gp K H' c ws:=CW F' H' s1 s2 s3
 refine⟨λd hd=>?_,λhl=>⟨vs,us,ws,⟨hs,yU,qJ⟩,by rw[←hp.length,←A0.length,←D7.length];rw[Ke]at hl;omega⟩⟩
 obtain⟨x,y,u,hx,hy,hu,rfl⟩:=Kc hd
 obtain⟨v,hv,l⟩:=hp.get' hx
 obtain⟨v',BO,l'⟩:=A0.get' hy
 obtain⟨v2,Jb,l2⟩:=D7.get' hu
 refine⟨⟨vs,us,ws,v,v',v2,⟨hs,yU,qJ⟩,hv,BO,Jb⟩,λz H2 q=>?_⟩
 obtain⟨r,w1,w2,w3,hr,rfl,rfl,q1,q2,q3⟩:=q
 have e1:=q1 vs hs
 have e2:=q2 us yU
 have e3:=q3 ws qJ
 rw[hv]at e1
 rw[BO]at e2
 rw[Jb]at e3
 cases e1
 cases e2
 cases e3
 exact⟨_,iU.newS s3 hr _,.inr (.tup zw (.cons (l.mono (s1.trans (xf (s3.free hr) _)) (.refl _)) (.cons (l'.mono (s1.trans (xf (s3.free hr) _)) (.refl _)) (.cons (l2.mono (s1.trans (xf (s3.free hr) _)) (.refl _)) .nil))))⟩
noncomputable def xM:List D->Option (List D)
 |[.lst xs,.lst ys,.lst us]=>some (iZ xs ys us)
 |_=>none
theorem QW {kt:Nat}(hm:X.mg "zip"=none)(ha:XA X ct ms [a,b,c] [n,n,n] fs)(hg:Gl X "zip":=by rfl)(hs:bK [a,b,c] X.env=[(false,cO a X.env),(false,cO b X.env),(false,cO c X.env)]:=by rfl)(qJ:bK [b,c] X.env=[(false,cO b X.env),(false,cO c X.env)]:=by rfl) :
  An X ct ms (n-1+1) (.Tuple oA kt pt) (.Call (.Name "zip" pp) [a,b,c] [] pos) (λρ=>(fs ρ).bind xM):=by
 obtain⟨t,pt,_,qt⟩:=ha
 refine⟨_,RK hg hm pt hs qJ,λF0 B F H ρ σ ds R rs e w=>?_⟩
 obtain⟨sR,h1,h2⟩:=ck e
 refine qt F0 B F H ρ σ _ _ rs h1 λvs F' H' x l=>?_
 cases l with
 |cons h t=>
  cases t with
  |cons h' t=>
   cases t with
   |cons h3 t=>
    cases t
    rename_i d v d' v' d3 v3
    cases d with
    |lst xs=>
     cases d' with
     |lst ys=>
      cases d3 with
      |lst us=>
       cases h2
       obtain⟨a,vs,rfl,ha,hp⟩:=h.lst x.fh
       obtain⟨b,us,rfl,hb,A0⟩:=h'.lst x.fh
       obtain⟨c,ws,rfl,hc,D7⟩:=h3.lst x.fh
       exact⟨a,b,c,rfl,⟨vs,us,ws,ha,hb,hc⟩,w _ F' H' x (Ul hp A0 D7 (λF2 H2 s1 s2 s3=>s2.seq ha) (λF2 H2 s1 s2 s3=>s2.seq hb) (λF2 H2 s1 s2 s3=>s2.seq hc))⟩
      |_=>cases h2
     |_=>cases h2
    |_=>cases h2
noncomputable def GQ (c n:Nat):Str:=⟨wC n c⟩
theorem foldl_rep (c:Nat):∀(n:Nat) (jD:Array Nat),(bQ n #[c]).foldl (· ++ ·) jD=jD++wC n c
 |0,jD=>by simp
 |n+1,jD=>by
  rw[dX,lG,foldl_rep c n,tZ]
  congr 1
  apply vP.mp
  simp[dX]
noncomputable def NT:D->D->Option D
 |.str y,.int i=>match y.cps.toList with
  |[c]=>if -1000000<=i/\i<=1000000 then some (.str (GQ c i.toNat))else none
  |_=>none
 |_,_=>none
noncomputable def GP:V->Option Int->Option Int->Hp->VK->Prop:=λx lo hi H Q=>∃y,x=.str y/\y.length<=sizeLine/\Q (.str (Txt.slice y lo hi)) H
theorem Um:Fo X GP:=by
 intro bH s σ H x v vl vu lo hi sl Q I rx hs pl pu h
 obtain⟨y,rfl,hz,q⟩:=h
 obtain⟨t,rfl⟩:=rx
 have key:∀l u:Option (Int×Tok),vl=PySem.partValue l->vu=PySem.partValue u->lo=l.map (·.1)->hi=u.map (·.1)->ce (cr X.prog X.w) X.A (pM (.str y t) (.ref sl)) (EP X bH σ Q) X.xe s:=by
  rintro l u rfl rfl rfl rfl
  refine wpAny_getItem_str_slice (l:=l) (u:=u) (st:=none) hs rfl (post_val_or_str ⟨dC (Txt.slice_le y (l.map (·.1)) (u.map (·.1))) hz,λt' k=>⟨.str (Txt.slice y (l.map (·.1)) (u.map (·.1))),H,I.tok _,⟨t',rfl⟩,q⟩⟩)
 refine⟨"str",_,F.slot_str_getitem.lookup,typeIs_str _ _ _,?_⟩
 cases pl with
 |none=>cases pu with
  |none=>exact key none none rfl rfl rfl rfl
  |int j tj=>exact key none (some (j,tj)) rfl rfl rfl rfl
 |int i ti=>cases pu with
  |none=>exact key (some (i,ti)) none rfl rfl rfl rfl
  |int j tj=>exact key (some (i,ti)) (some (j,tj)) rfl rfl rfl rfl
noncomputable def tW (d:D)(lo hi:Option Int):Option D:=match d with
 |.str y=>if y.length<=16777216 then some (.str (Txt.slice y lo hi))else none
 |_=>none
noncomputable def rA:D->D->Option D
 |.str y,.str z=>if(z.length==0)=false/\y.length<=16777216/\(Txt.split y z).length<=16777216 then some (.lst ((Txt.split y z).map .str))else none
 |_,_=>none
theorem Ll {K:bG}{F:Hp}:∀l:List Str,Pr (Dt K ct F) (l.map D.str) (l.map V.str)
 |[]=>.nil
 |x::l=>.cons (.str x) (Ll l)
theorem QX (ho:XE X ct ms n o f)(he:XE X ct ms m e g)(mj:bK [e] X.env=(false,cO e X.env)::bK [] X.env:=by rfl)
  (m7:fB o "split" X.env (cO o X.env)=cO o X.env:=by rfl)
  (qU:((dq gE (bK [e] X.env)).all (λx=>!x.1)&&(gk gE (ek [] X.env)).all (λx=>x.1.isSome)
   && decide ([e].length+([]:List lz).length+(if([]:List lz).isEmpty then 0 else 1)<30))=true:=by rfl)
  (m8:(fT.endLine==gE.line)=true:=by rfl) (kX:(dq gE (bK [] X.env)).any (·.1)=false:=by rfl) :
  XO X ct ms 1 (.Call (.Attribute o "split" fT) [e] [] gE) (e2 rA f g):=by
 obtain⟨ta,pa,qa⟩:=ho
 obtain⟨tb,pb,qb⟩:=he
 refine⟨_,Fc PySem.F.plainAttrs_str PySem.F.slot_str_split PySem.F.type_str_split Qh pa (yw pb ug mj) m7 qU m8 mj kX,λF0 B F H ρ σ d Q rs e w=>?_⟩
 obtain⟨d1,d2,h1,h2,h3⟩:=eM e
 refine qa F0 B F H ρ σ d1 _ rs h1 λv1 F1 H1 x1 l1=>?_
 cases d1 with
 |str y=>
  cases d2 with
  |str z=>
   have h3:(if(z.length==0)=false/\y.length<=16777216/\(Txt.split y z).length<=16777216 then some (D.lst ((Txt.split y z).map .str))else none)=some d:=h3
   by_cases hp:(z.length==0)=false/\y.length<=16777216/\(Txt.split y z).length<=16777216
   ·rw[if_pos hp]at h3
    cases h3
    have q1:=Al.scal (F':=F1) l1 rfl
    cases q1
    refine⟨rfl,qb F0 B F1 H1 ρ σ _ _ (rs.ext x1) h2 λv2 F2 H2 x2 l2=>?_⟩
    have q2:=Al.scal (F':=F2) l2 rfl
    cases q2
    refine⟨y,z,rfl,rfl,hp.1,by rw[el];exact hp.2.1,by rw[el];exact hp.2.2,v6 x2.fh (Ll _) λv F' H' fp x o nd hf=>w v F' H' fp ((x1.trans x2).trans x) o nd λz hz=>(x1.trans x2).hh.free (hf z hz)⟩
   ·rw[if_neg hp]at h3;cases h3
  |_=>cases h3
 |_=>cases h3
theorem Pr.every2 {vs:List V}(h:Pr R ds vs):Pr R (L2.every2 ds) (L2.every2 vs):=by
 have:∀(n:Nat) (ds:List D) (vs:List V),ds.length<=n->Pr R ds vs->Pr R (L2.every2 ds) (L2.every2 vs):=by
  intro n
  induction n with
  |zero=>
   intro xs us hl r
   cases r with
   |nil=>exact .nil
   |cons _ _=>simp at hl
  |succ n ih=>
   intro xs us hl r
   cases r with
   |nil=>exact .nil
   |cons h t=>
    cases t with
    |nil=>exact .cons h .nil
    |cons h2 t2=>exact .cons h (ih _ _ (by simp at hl;omega) t2)
 exact this _ _ _ (bY _) h
theorem EW {sl sp:Expr}(hn:n<=1)(he:XE X ct ms n e f)(hl:XE X ct ms m sl (eC (.int (i:Int))))(hp:XE X ct ms k sp (eC (.int 2))):XO X ct ms 1 (.Subscript e (.Slice (some sl) none (some sp) p1) pos) (λρ=>((lsD f) ρ).bind λds=>some (.lst (every2 (ds.drop i)))):=by
 obtain⟨t,pt,qt⟩:=he
 obtain⟨t1,vE,vF⟩:=hl
 obtain⟨t2,nh,pY⟩:=hp
 refine⟨_,RL pt (HF vE) (HF nh),λF0 B F H ρ σ r Q rs e w=>?_⟩
 obtain⟨ds,h1,h2⟩:=ck e
 cases h2
 obtain⟨d,h3,h4⟩:=ck h1
 rw[Hi h4]at h3
 refine qt F0 B F H ρ σ _ _ rs h3 λv F1 H1 x1 l1=>?_
 refine vF F0 B F1 H1 ρ σ (.int (i:Int)) _ (rs.ext x1) rfl λu F2 H2 x2 l2=>⟨_,l2.int,?_⟩
 refine pY F0 B F2 H2 ρ σ (.int 2) _ ((rs.ext x1).ext x2) rfl λu F3 H3 x3 l3=>⟨_,l3.int,?_⟩
 have sJ:=x2.trans x3
 obtain⟨a,vs,rfl,ha,hp⟩:=Al.lst1 hn (l1.mono sJ.ff sJ.hh) sJ.fh
 exact⟨i,a,vs,rfl,rfl,rfl,ha,v6 sJ.fh (hp.drop i).every2 λv F' H' fp x o nd hf=>w v F' H' fp ((x1.trans sJ).trans x) o nd λz hz=>(x1.trans sJ).hh.free (hf z hz)⟩
noncomputable def kK:List D->Option D
 |[.str y]=>if y.length<=640 then(PySem.intText? y).bind λi=>some (.int i)else none
 |_=>none
theorem yn:wJ K ct [n] k (λxs H Q=>∃y i,xs=[.str y]/\PySem.intText? y=some i/\y.length<=640/\Q (.int i) H) kK:=by
 intro F H vs ds d Q s l e w
 cases l with
 |cons h t=>
  cases t
  rename_i d0 v0
  cases d0 with
  |str y=>
   have e:(if y.length<=640 then(PySem.intText? y).bind λi=>some (D.int i)else none)=some d:=e
   by_cases hl:y.length<=640
   ·rw[if_pos hl]at e
    obtain⟨i,h1,h2⟩:=ck e
    cases h2
    exact⟨y,i,by rw[h.str],h1,hl,w _ F H (.refl s) (Al.of (.int i))⟩
   ·rw[if_neg hl]at e;cases e
  |_=>cases e
noncomputable def qS (K:bG)(ct:Nat->bI)(n m:Nat)(mf:List D->Option D):Sp:=λvs H Q _=>∃(F:Hp) (ds es:List D) (us ws:List V) (d p p':D) (a:bI),vs=us ++ .ref a::ws/\ds.length=n/\es.length=m/\cR F H/\Pr (Dt K ct F) ds us/\Pr (Dt K ct F) es ws/\Ow K ct F H 1 p (.ref a) [a]/\mf (ds++p::es)=some (.tup [d,p']) /\
 ∀v F' H',cR F F'->(∀x o,H x=some o->x≠a->H' x=some o)->cR F' H'->(∀x o,H x=some o->lB o->F x=none->F' x=none)->Ow K ct F' H' 1 p' (.ref a) [a]->Dt K ct F' d v->Q v H'
theorem qS.len (h:n+1+m=ps.length):∀vs H Q E,qS K ct n m mf vs H Q E->vs.length=ps.length:=by
 rintro vs H Q E ⟨F,ds,es,us,ws,d,p,p',a,rfl,hn,hm,_,l,l2,_⟩
 rw[←h,←hn,←hm,l.length,l2.length,cv,bM]
 omega
noncomputable def mOf1 (n:Nat)(N:List Str)(bf:EM)(ds:List D):Option D:=(bf (startD N ds)).bind λr=>(r.2[n]?).join.bind λp=>some (.tup [r.1,p])
theorem xt {w:cY}{fd:bW}{bf:EM}(Fn:Fun2 K x qual st fa fd)(S:fX N ps (cU st))(yS:n+1+m=ps.length)(BK:n+1+m+ms.length=N.length)
  (body:∀(a:bI) (iF:bC) (A:c7) (outer:List PySem.Env) (s:bP) (H:Hp) (E:XK),eG kk (A.deeper (envOfC qual (cU st) s.heap.objs.size fa iF))->tE (oW fK P w K mg base N qual (cU st) fa iF A outer s H E).nox ct (bQ n (Mo.ow 0) ++ .so a::(bQ m (Mo.ow 0)++ms)) (fZ st) bf) :
  dm P w K mg base fK (kk+1) fa fd ps (qS K ct n m (mOf1 n N bf)):=by
 refine Fn.ok S (qS.len yS) λiF A outer s H vs Q E hr h=>?_
 obtain⟨F,ds,es,us,ws,d,p,p',a,rfl,hn,CG,sF,l,l2,oa,hm,z⟩:=h
 subst hn CG
 obtain⟨t,pt,qt⟩:=body a iF A outer s H E hr
 refine⟨t,pt,?_⟩
 obtain⟨⟨d1,ρ'⟩,h1,h2⟩:=ck hm
 obtain⟨p1,h3,h4⟩:=ck h2
 cases h4
 have MZ:=(oa.cells a bF).1
 have N7:cR F (rH H a):=λy o hy=>by
  rw[uu (λe=>by rw[e,MZ]at hy;cases hy)]
  exact sF _ _ hy
 refine qt F (rH H a) F H (startD N (ds++p::es)) ρ' (L2.start N (us ++ .ref a::ws)) d1 _ ⟨.refl _,jx _ _,sF,λ_ _ _ _ h=>h,[a],?_,by simp,λy hy=>?_⟩ h1 ?_
 ·have e1:startD N (ds++p::es)=ds.map some++(some p::(es.map some++bQ ms.length none)):=by
   unfold startD
   rw[show N.length-(ds++p::es).length=ms.length by rw[cv,bM];omega]
   simp
  have e2:L2.start N (us ++ .ref a::ws)=us.map some++(some (.ref a)::(ws.map some++bQ ms.length none)):=by
   unfold L2.start
   rw[show N.length-(us++V.ref a::ws).length=ms.length by rw[cv,bM,←l.length,←l2.length];omega]
   simp
  rw[e1,e2]
  have q2:=SL.app (SL.none (K:=K) (ct:=ct) (F:=F) (B:=rH H a) (H:=H) ms) (SL.start0 (B:=rH H a) (H:=H) l2)
  have:=SL.app (.so oa q2) (SL.start0 (B:=rH H a) (H:=H) l)
  have h7:SL K ct F (rH H a) H (bQ ds.length (Mo.ow 0)++Mo.so a::(bQ es.length (Mo.ow 0)++ms)) (ds.map some++(some p::(es.map some++bQ ms.length none))) (us.map some++(some (.ref a)::(ws.map some++bQ ms.length none))) [a]:=by simpa using this
  exact h7
 ·rw[cj.mp hy];exact LW _ _
 ·intro v σ' F' H' r dt
  obtain⟨_,o1,_⟩:=r.so_at (i:=ds.length) (ad:=a) (by simp) (zt h3)
  refine z v F' H' r.f0 (λy o hy n1=>r.bh _ _ (by rw[uu n1];exact hy)) r.fh (λy o hy t hn=>?_) o1 dt
  by_cases ea:y=a
  ·subst ea;exact(o1.cells _ bF).1
  exact r.nf y o (by rw[uu ea];exact hy) t hn
section
theorem RS.one {p:D}(rs:RS K ct F0 B ms F H ρ σ)(Ga:ms[i]?=some (.ow 1))(hp:ρ[i]?=some (some p))(cp:kY p=true) :
  ∃a,σ[i]?=some (some (.ref a))/\Ow K ct F H 1 p (.ref a) [a]/\B a=none /\
   ∀(F' H':Hp) (p':D),cR F F'->(∀x o,H x=some o->x≠a->H' x=some o)->cR F' H'->(∀x o,H x=some o->lB o->F x=none->F' x=none)->Ow K ct F' H' 1 p' (.ref a) [a]->RS K ct F0 B ms F' H' (ρ.set i (some p')) σ:=by
 obtain⟨f1,fr,n1,b1,dj,i4,cf,put⟩:=rs.put (F':=F) (H':=H) Ga
 obtain⟨v,hσ,ow⟩:=i4 p hp
 obtain⟨a,rfl,rfl⟩:=ow.cell cp
 refine⟨a,hσ,ow,b1 a bF,λF' H' p' s1 kH s3 nf o1=>?_⟩
 have Ba:=b1 a bF
 have r:=put F' H' p' (.ref a) [a] s1 (λy o hy=>kH y o (rs.bh _ _ hy) λe=>by rw[e,Ba]at hy;cases hy) s3 (λy o hy t hn=>nf y o (rs.bh _ _ hy) t (rs.nf y o hy t hn)) (λy hy=>by
  obtain⟨hn,o,ho,nt⟩:=cf y hy
  exact⟨(kH y o ho λe=>dj a bF (e▸hy)).trans ho.symm,nf y o ho nt hn⟩) o1 (by simp) (λy hy=>by
  rw[cj]at hy
  subst hy
  exact dj _ bF) (λy hy=>by
  rw[cj]at hy
  subst hy
  exact Ba)
 rw[QU hσ]at r
 exact r
noncomputable def BD (X:Cx)(ct:Nat->bI)(ms:List Mo)(es:List Expr)(g:Env->Option (List D)):Prop:=∃t,PA X es t/\∀(F0 B F H:Hp) (ρ:Env) (σ:St) (es:List D) (Q:List V->Hp->Prop),RS X.K ct F0 B ms F H ρ σ->g ρ=some es->(∀ws F' H',iU F H F' H'->Pr (Dt X.K ct F') es ws->Q ws H')->t σ H Q
theorem xu:BD X ct ms [] aNil:=⟨_,ug,λF0 B F H ρ σ es Q rs e z=>by cases e;exact z [] F H (.refl rs.fh) .nil⟩
theorem yy (h1:XE X ct ms 0 a f)(h2:BD X ct ms es fs)(hs:bK (a::es) X.env=(false,cO a X.env)::bK es X.env:=by rfl):BD X ct ms (a::es) (aCons f fs):=by
 obtain⟨t,pt,qt⟩:=h1
 obtain⟨t2,nh,pY⟩:=h2
 refine⟨_,yw pt nh hs,λF0 B F H ρ σ ds Q rs e z=>?_⟩
 obtain⟨d,sR,g1,g2,g3⟩:=eM e
 cases g3
 refine qt F0 B F H ρ σ d _ rs g1 λv F1 H1 x1 l=>?_
 exact pY F0 B F1 H1 ρ σ sR _ (rs.ext x1) g2 λus F2 H2 x2 l2=>z (v::us) F2 H2 (x1.trans x2) (.cons (Dt.mono x2.ff l) l2)
variable {fd:bW}
end
mutual
inductive KC (K:bG):D->bC->Prop
 |non:KC K .non .none
 |int {i:Int} {t:Tok}:KC K (.int i) (.int i t)
 |str {x:Str} {t:Tok}:KC K (.str x) (.str x t)
 |kt {a:bI} {od:Option bI} {df:Array bC} {n:Nat} {sl:Array (Option bC)} {ds:List D}:K.lookup a=some ⟨.type "tuple",od,.seq df n,sl⟩->df.size<=1000->KCs K ds df.toList->KC K (.kt ds) (.ref a)
inductive KCs (K:bG):List D->List bC->Prop
 |nil:KCs K [] []
 |cons {d:D} {u:bC} {ds:List D} {us:List bC}:KC K d u->KCs K ds us->KCs K (d::ds) (u::us)
end
theorem KC.dt {u:bC}(h:KC K d u):∃v,RelV v u/\∀F,Dt K ct F d v :=
 KC.rec (motive_1:=λd u _=>∃v,RelV v u/\∀F,Dt K ct F d v) (motive_2:=λds us _=>∃vs,c8 vs us/\∀F,Dts K ct F ds vs) ⟨.non,rfl,λ_=>.non⟩ (λ{i t}=>⟨.int i,⟨t,rfl⟩,λ_=>.int i⟩) (λ{x t}=>⟨.str x,⟨t,rfl⟩,λ_=>.str x⟩)
  (λ{a} _ _ _ _ _ l z _ ⟨vs,r,q⟩=>⟨.ref a,rfl,λF=>.kt ⟨_,_,_,l,rfl,rfl,small z,r⟩ (q F)⟩) ⟨[],.nil,λ_=>.nil⟩ (λ_ _ ⟨v,r,q⟩ ⟨vs,rs,qs⟩=>⟨v::vs,.cons r rs,λF=>.cons (q F) (qs F)⟩) h
inductive KL (K:bG):List (Str×D)->List (Str×bC)->Prop
 |nil:KL K [] []
 |cons {k:Str} {d:D} {u:bC} {ts:List (Str×D)} {L:List (Str×bC)}:KC K d u->KL K ts L->KL K ((k,d)::ts) ((k,u)::L)
variable {L:List (Str×bC)}{ts:List (Str×D)}
theorem KL.look (h:KL K ts L)(x:Str):(L.lookup x).isSome=(ts.lookup x).isSome/\∀d,ts.lookup x=some d->∃u,L.lookup x=some u/\KC K d u:=by
 induction h with
 |nil=>exact⟨rfl,λd e=>by cases e⟩
 |@cons k d u ts L q t ih=>
  rw[cq,cq]
  cases x==k with
  |true=>exact⟨rfl,λd' e=>by cases e;exact⟨u,rfl,q⟩⟩
  |false=>exact ih
noncomputable def KG (K:bG)(w:cY)(mg:Str->Option bC)(x:Str)(ts:List (Str×D)):Prop:=∃da L,KD K w mg x da L/\KL K ts L
noncomputable def BP (ts:List (Str×D)):D->Option D
 |.str k=>ts.lookup k
 |_=>none
noncomputable def pj (neg:Bool)(ts:List (Str×D)):D->Option D
 |.str k=>some (.bl (if neg then !(ts.lookup k).isSome else(ts.lookup k).isSome))
 |_=>none
section
variable {p:mZ}
theorem Mi (h:∃u,X.mg x=some u/\KC X.K d u)(hg:Gl X x:=by rfl)(hd:(x==("__debug__":Str))=false:=by decide):XE X ct ms n (.Name x pos) (eC d):=by
 obtain⟨u,hm,q⟩:=h
 obtain⟨v,r,q⟩:=q.dt (ct:=ct)
 refine⟨_,HB hg hm r hd,λF0 B F H ρ σ d' Q rs e w=>?_⟩
 cases e
 exact w _ F H (.refl rs.fh) (Al.of (q F))
theorem Mj (G:KG X.K X.w X.mg x ts)(he:XE X ct ms n e f)(hg:Gl X x:=by rfl)(hs:wI e:=by exactλ_ _=>rfl)(hd:(x==("__debug__":Str))=false:=by decide):XE X ct ms k (.Subscript (.Name x p) e pos) (e1 (BP ts) f):=by
 obtain⟨da,L,D,l⟩:=G
 obtain⟨t,pt,qt⟩:=he
 refine⟨_,UM D hg pt hs hd,λF0 B F H ρ σ d Q rs e w=>?_⟩
 obtain⟨y,h1,h2⟩:=ck e
 refine qt F0 B F H ρ σ y _ rs h1 λv F1 H1 x1 l1=>?_
 cases y with
 |str z=>
  obtain⟨u,h3,h4⟩:=(l.look z).2 d h2
  obtain⟨v',r,q⟩:=h4.dt (ct:=ct)
  exact⟨z,u,v',l1.str,h3,r,w v' F1 H1 x1 (Al.of (q F1))⟩
 |_=>cases h2
theorem Sw (G:KG X.K X.w X.mg x ts)(he:XE X ct ms n e f)(hg:Gl X x:=by rfl)(hd:(x==("__debug__":Str))=false:=by decide)(hm:dU .In (.Name x p)=false:=by rfl):XT X ct ms (.Compare e [.In] [.Name x p] pos) (tb (e1 (pj false ts) f)):=by
 obtain⟨da,L,D,l⟩:=G
 obtain⟨t,pt,qt⟩:=he
 refine⟨_,HL (RM D hg pt hd) hm,λF0 B F H ρ σ b Q rs e w=>?_⟩
 obtain⟨d,h0,h4⟩:=ck e
 obtain⟨y,h1,h2⟩:=ck h0
 refine qt F0 B F H ρ σ y _ rs h1 λv F1 H1 x1 l1=>?_
 cases y with
 |str z=>
  cases h2
  cases h4
  refine⟨z,l1.str,_,rfl,?_⟩
  rw[(l.look z).1]
  exact w F1 H1 x1
 |_=>cases h2
theorem Ps (G:KG X.K X.w X.mg x ts)(he:XE X ct ms n e f)(hg:Gl X x:=by rfl)(hd:(x==("__debug__":Str))=false:=by decide)(hm:dU .NotIn (.Name x p)=false:=by rfl):XT X ct ms (.Compare e [.NotIn] [.Name x p] pos) (tb (e1 (pj true ts) f)):=by
 obtain⟨da,L,D,l⟩:=G
 obtain⟨t,pt,qt⟩:=he
 refine⟨_,HL (Pp D hg pt hd) hm,λF0 B F H ρ σ b Q rs e w=>?_⟩
 obtain⟨d,h0,h4⟩:=ck e
 obtain⟨y,h1,h2⟩:=ck h0
 refine qt F0 B F H ρ σ y _ rs h1 λv F1 H1 x1 l1=>?_
 cases y with
 |str z=>
  cases h2
  cases h4
  refine⟨z,l1.str,_,rfl,?_⟩
  rw[(l.look z).1]
  exact w F1 H1 x1
 |_=>cases h2
noncomputable def zZ:List D->Option (List D)
 |[.lst xs,.kt ys]=>some (oJ xs ys)
 |_=>none
theorem L4 {kt:Nat}(hm:X.mg "zip"=none)(ha:XA X ct ms [a,b] [0,0] fs)(hg:Gl X "zip":=by rfl)(hs:bK [a,b] X.env=[(false,cO a X.env),(false,cO b X.env)]:=by rfl)(qJ:bK [b] X.env=[(false,cO b X.env)]:=by rfl) :
  An X ct ms 1 (.Tuple oA kt pt) (.Call (.Name "zip" pp) [a,b] [] pos) (λρ=>(fs ρ).bind zZ):=by
 obtain⟨t,pt,_,qt⟩:=ha
 refine⟨_,UN hg hm pt hs qJ,λF0 B F H ρ σ ds R rs e w=>?_⟩
 obtain⟨sR,h1,h2⟩:=ck e
 refine qt F0 B F H ρ σ _ _ rs h1 λvs F' H' x l=>?_
 cases l with
 |cons h t=>
  cases t with
  |cons h' t=>
   cases t
   rename_i d v d' v'
   cases d with
   |lst xs=>
    cases d' with
    |kt ys=>
     cases h2
     obtain⟨a,vs,rfl,ha,hp⟩:=Dt.lst_inv h
     obtain⟨b,us,rfl,hb,A0⟩:=Al.kt (n:=0) (G:=H') h'
     refine⟨a,b,rfl,⟨vs,us,x.fh.seq ha,.inr hb⟩,w _ F' H' x λi F2 H2 s1 s2 s3=>?_⟩
     have hs:gp X.K H2 a vs:=s3.seq (s1.seq ha)
     have yU:lN X.K H2 b us:=.inr hb
     refine⟨λd hd=>?_,λhl=>⟨vs,us,⟨hs,yU⟩,by rw[←hp.pr.length,←A0.length];rw[KM]at hl;omega⟩⟩
     obtain⟨x,y,hx,hy,rfl⟩:=KJ hd
     obtain⟨v,hv,l⟩:=hp.pr.get' hx
     obtain⟨u,hu,l'⟩:=A0.get' hy
     refine⟨⟨vs,us,v,u,⟨hs,yU⟩,hv,hu⟩,λz H3 q=>?_⟩
     obtain⟨r,v',u',hr,rfl,rfl,q1,q2⟩:=q
     have e1:=q1 vs hs
     have e2:=q2 us yU
     rw[hv]at e1
     rw[hu]at e2
     cases e1
     cases e2
     exact⟨_,iU.newS s3 hr _,.inr (.tup zw (.cons (Dt.mono (s1.trans (xf (s3.free hr) _)) l) (.cons (Dt.mono (s1.trans (xf (s3.free hr) _)) l') .nil)))⟩
    |_=>cases h2
   |_=>cases h2
end
variable {Ew:dH}
section
open PySem PySem.Spec L2
open PyProof.Rows hiding St
open PySem.W
noncomputable def lZ {α:Type}(f:Str)(y:α):List Str->List α->List α
 |n::ns,v::vs=>if n=f then y::vs else v::lZ f y ns vs
 |_,vs=>vs
theorem Hs {f:Str}{y:V}:∀{ns:List Str} {vs:List V},ns.length=vs.length->ns.contains f=true->ky f y (ns.zip vs)=ns.zip (lZ f y ns vs)
 |[],_,_,h=>by cases h
 |_::_,[],h,_=>by simp at h
 |n::ns,v::vs,h,hc=>by
  show(if n=f then _ else _)=_
  unfold lZ
  by_cases e:n=f
  ·rw[if_pos e,if_pos e];rfl
  ·rw[if_neg e,if_neg e,e9]
   show(n,v)::ky f y (ns.zip vs)=_
   rw[Hs (by simpa using h) (by
    rw[mY,jE]at hc
    exact hc.resolve_left λz=>e (eq_of_beq z).symm)]
theorem zev {α:Type}{f:Str}{y:α}:∀{ns:List Str} {vs:List α},(lZ f y ns vs).length=vs.length
 |[],_=>by unfold lZ;rfl
 |_::_,[]=>by unfold lZ;rfl
 |n::ns,v::vs=>by
  unfold lZ
  by_cases e:n=f
  ·rw[if_pos e];rfl
  ·rw[if_neg e,bM,zev,bM]
theorem Lm {R:D->V->Prop}{f:Str}{d:D}{y:V}(r:R d y):∀{ns:List Str} {ds:List D} {vs:List V},Pr R ds vs->Pr R (lZ f d ns ds) (lZ f y ns vs)
 |[],_,_,h=>by unfold lZ;exact h
 |_::_,_,_,.nil=>by unfold lZ;exact .nil
 |n::ns,_,_,.cons h t=>by
  unfold lZ
  by_cases e:n=f
  ·rw[if_pos e,if_pos e];exact .cons r t
  ·rw[if_neg e,if_neg e];exact .cons h (Lm r t)
noncomputable def n4 (K:bG)(ct:Nat->bI)(ms:List Mo)(i:Nat):Prop:=∀(F0 B F H:Hp) (ρ:Env) (σ:St) (p:D),RS K ct F0 B ms F H ρ σ->ρ[i]?=some (some p)->kY p=true ->
 ∃a,σ[i]?=some (some (.ref a))/\Ow K ct F H 1 p (.ref a) [a]/\B a=none /\
  ∀(F' H':Hp) (p':D),cR F F'->(∀x o,H x=some o->x≠a->H' x=some o)->cR F' H'->(∀x o,H x=some o->lB o->F x=none->F' x=none)->Ow K ct F' H' 1 p' (.ref a) [a]->RS K ct F0 B ms F' H' (ρ.set i (some p')) σ
theorem tG (h:ms[i]?=some (.ow 1)):n4 K ct ms i:=λF0 B F H ρ σ p rs hp hc=>rs.one h hp hc
theorem pX {a:bI}(h:ms[i]?=some (.so a)):n4 K ct ms i:=λF0 B F H ρ σ p rs hp hc=>by
 obtain⟨fp,sl,nd,hb⟩:=rs.sl
 obtain⟨h1,h2,h3,h4⟩:=sl.putS nd h hp
 have hB:B a=none:=hb a h3
 refine⟨a,h1,h2,hB,λF' H' p' s1 kH s3 nf o1=>⟨rs.f0.trans s1,(λy o hy=>kH y o (rs.bh _ _ hy) λe=>by rw[e,hB]at hy;cases hy),s3,(λy o hy t hn=>nf y o (rs.bh _ _ hy) t (rs.nf y o hy t hn)),fp,h4 F' H' p' s1 (λy hy ne=>?_) o1,nd,hb⟩⟩
 obtain⟨hn,o,ho,nt⟩:=sl.cells y hy
 exact⟨(kH y o ho ne).trans ho.symm,nf y o ho nt hn⟩
section
noncomputable def iY (i:Nat)(cs:List Nat)(x:Str)(f:EF):SF:=λρ=>(f ρ).bind λd=>(eV i ρ).bind λo=>match o with
 |.obj c ns ds=>if cs.contains c=true/\ns.contains x=true/\ns.length<900 then some (.nx (ρ.set i (some (.obj c ns (lZ x d ns ds)))))else none
 |_=>none
theorem Ln {xa dx:bI}{cc:Nat}{ns:List Str}{vs:List V}{y:V}(hF:F xa=none)(hl:ns.length=vs.length)(ol:Pr (Dt K ct F) ds vs)(l:Dt K ct F d y) :
  Ow K ct F (fM H xa (.ins (ct cc) dx (ns.zip (lZ x y ns vs)))) 1 (.obj cc ns (lZ x d ns ds)) (.ref xa) [xa] :=
 .inr (xR.obj (vs:=lZ x y ns vs) hF zw (by rw[zev];exact hl) (ie.ofPr ((Lm l ol).mono λ_ _ q=>⟨q,rfl⟩)))
theorem ql (hC:n4 X.K ct ms i)(hc:∀c∈cs,ma X.K (ct c)/\eR X.K (ct c) x)(he:XE X ct ms 0 e f)(hN:X.N[i]?=some s:=by rfl)(hv:rY X.env.scope s:=by first|exact Or.inl rfl|exact Or.inr (Or.inl rfl)|exact Or.inr (Or.inr rfl))(hd:(s==("__debug__":Str))=false:=by decide)
  (kJ:(s==("__classdict__":Str))=false:=by decide) (hs:eI e (some (.Attribute (.Name s p1) x pos')) pos.line X.env=pure false:=by rfl):XS X ct ms rk (.Assign [.Attribute (.Name s p1) x pos'] e pos) (iY i cs x f):=by
 obtain⟨t,pt,qt⟩:=he
 refine⟨_,LI (wj hN hv hd kJ) pt hs,λF0 B F H ρ σ o E rs e z=>?_⟩
 obtain⟨d,h1,h2⟩:=ck e
 obtain⟨ob,h3,h4⟩:=ck h2
 refine qt F0 B F H ρ σ d _ rs h1 λy F1 H1 x1 l=>?_
 cases ob with
 |obj c ns ds=>
  dsimp only at h4
  by_cases hz:cs.contains c=true/\ns.contains x=true/\ns.length<900
  ·rw[if_pos hz]at h4
   cases h4
   obtain⟨xa,hσ,ow,hB,put⟩:=hC _ _ _ _ _ _ _ (rs.ext x1) (zt h3) rfl
   obtain⟨a,dx,vs,fr,e1,e2,hF,hH,hl,ol⟩:=ow.obj_inv
   cases e1
   cases e2
   have hh:=hc c (by simpa using hz.1)
   refine⟨_,hσ,xa,_,dx,_,rfl,hH,hh.1,hh.2,by rw[hZ,←hl,jX];omega,?_⟩
   rw[Hs hl hz.2.1]
   exact z σ F1 _ (put F1 _ _ (.refl _) (λb o h ne=>by rw[zp ne];exact h) (λb o h=>by rw[zp (λe=>by rw[e,hF]at h;cases h)];exact x1.fh _ _ h) (λb o h _ hn=>hn) (Ln hF hl (ol.pr λ_ _ _ _ q=>q.1) l))
  ·rw[if_neg hz]at h4;cases h4
 |_=>cases h4
noncomputable def uK (i:Nat)(cs:List Nat)(x:Str)(f:EF):SF:=λρ=>(eV i ρ).bind λo=>(f ρ).bind λd=>match o,d with
 |.obj c ns ds,.int b=>if cs.contains c=true/\ns.contains x=true/\ns.length<900 then match (ns.zip ds).lookup x with
  |some (.int a)=>some (.nx (ρ.set i (some (.obj c ns (lZ x (.int (a+b)) ns ds)))))
  |_=>none else none
 |_,_=>none
theorem RP (hC:n4 X.K ct ms i)(hc:∀c∈cs,ma X.K (ct c)/\eR X.K (ct c) x)(he:XE X ct ms 0 e f)(hN:X.N[i]?=some s:=by rfl)(hv:rY X.env.scope s:=by first|exact Or.inl rfl|exact Or.inr (Or.inl rfl)|exact Or.inr (Or.inr rfl))(hd:(s==("__debug__":Str))=false:=by decide)
  (kJ:(s==("__classdict__":Str))=false:=by decide):XS X ct ms rk (.AugAssign (.Attribute (.Name s p1) x mQ) .Add e pos) (uK i cs x f):=by
 obtain⟨t,pt,qt⟩:=he
 refine⟨_,PQ (wj hN hv hd kJ) pt Tz,λF0 B F H ρ σ o E rs e z=>?_⟩
 obtain⟨ob,d,h3,h1,h4⟩:=eM e
 cases ob with
 |obj c ns ds=>
  cases d with
  |int bi=>
   dsimp only at h4
   by_cases hz:cs.contains c=true/\ns.contains x=true/\ns.length<900
   ·rw[if_pos hz]at h4
    have hh:=hc c (by simpa using hz.1)
    cases F7:(ns.zip ds).lookup x with
    |none=>rw[F7]at h4;cases h4
    |some d1=>
     rw[F7]at h4
     cases d1 with
     |int ai=>
      cases h4
      obtain⟨xa,hσ,ow,hB,put⟩:=hC _ _ _ _ _ _ _ rs (zt h3) rfl
      obtain⟨a,dx,vs,fr,e1,e2,hF,hH,hl,ol⟩:=ow.obj_inv
      cases e1
      cases e2
      obtain⟨v1,NK,l1⟩:=u6 (ol.pr (R':=Dt X.K ct F) λ_ _ _ _ q=>q.1) F7
      cases l1
      refine⟨_,hσ,xa,_,dx,_,_,rfl,hH,hh.1,hh.2,NK,qt F0 B F H ρ σ _ _ rs h1 λy F1 H1 x1 l=>?_⟩
      have ey:=Al.int l
      subst ey
      refine⟨ai,bi,rfl,rfl,?_⟩
      obtain⟨VR,Bb,Eo,Vu,GL⟩:=hC _ _ _ _ _ _ _ (rs.ext x1) (zt h3) rfl
      rw[hσ]at Bb
      cases Bb
      obtain⟨a,Cg,Hd,fr,e1,e2,ID,Nd,qW,NW⟩:=Eo.obj_inv
      cases e1
      cases e2
      refine⟨Cg,_,Nd,by rw[hZ,←qW,jX];omega,?_⟩
      rw[Hs qW hz.2.1]
      exact z σ F1 _ (GL F1 _ _ (.refl _) (λb o h ne=>by rw[zp ne];exact h) (λb o h=>by rw[zp (λe=>by rw[e,ID]at h;cases h)];exact x1.fh _ _ h) (λb o h _ hn=>hn) (Ln ID qW (NW.pr λ_ _ _ _ q=>q.1) (.int _)))
     |_=>cases h4
   ·rw[if_neg hz]at h4;cases h4
  |_=>cases h4
 |_=>cases h4
variable {fd:bW}
noncomputable def xE (i:Nat)(ρ:Env):D->Option (D×Env)
 |.tup [d,p']=>some (d,ρ.set i (some p'))
 |_=>none
theorem Qa {r:D}(h:xE i ρ r=some (d,ρ')):∃p',r=.tup [d,p']/\ρ' = ρ.set i (some p'):=by
 unfold xE at h
 split at h
 ·cases h;exact⟨_,rfl,rfl⟩
 ·cases h
noncomputable def mE (i:Nat)(gs:Env->Option (List D))(mf:List D->Option D):EM:=λρ=>(eV i ρ).bind λp=>(gs ρ).bind λes=>if kY p=true then(mf (p::es)).bind (xE i ρ)else none
theorem HX {F1 H1:Hp}{pd:D}{es:List D}{ws:List V}{a0:bI}{Q:VK}{E:XK}(hC:n4 K ct ms i)(rs:RS K ct F0 B ms F H ρ σ)(x1:iU F H F1 H1)(hp:ρ[i]?=some (some pd))(hc:kY pd=true)(hσ:σ[i]?=some (some (.ref a0)))(l2:Pr (Dt K ct F1) es ws)(hm:es.length=m)
  (h7:(mf (pd::es)).bind (xE i ρ)=some (d,ρ')) (z:∀v F' H',RS K ct F0 B ms F' H' ρ' σ->Dt K ct F' d v->Q v H'):qS K ct 0 m mf (.ref a0::ws) H1 Q E:=by
 obtain⟨r,h6,h8⟩:=ck h7
 obtain⟨p',rfl,rfl⟩:=Qa h8
 obtain⟨a,Bb,oa,Ba,put⟩:=hC _ _ _ _ _ _ _ (rs.ext x1) hp hc
 rw[hσ]at Bb
 cases Bb
 exact⟨F1,[],es,[],ws,d,pd,p',a0,rfl,rfl,hm,x1.fh,.nil,l2,oa,h6,λv F' H' s1 kH s3 nf o1 dt=>z v F' H' (put F' H' p' s1 kH s3 nf o1) dt⟩
theorem Ht {gs:Env->Option (List D)}(hC:n4 X.K ct ms i)(d:kA X.K X.mg x Ew ps fa fd)(Fn:dm X.prog X.w X.K X.mg X.base fK kk fa fd ps (qS X.K ct 0 m mf))(hr:eG kq X.A)(hn:∀ρ ds,gs ρ=some ds->ds.length=m)(ha:BD X ct ms es gs)(oZ:kk<=kq:=by decide)(hg:Gl X x:=by rfl)
  (hN:X.N[i]?=some s:=by rfl) (hv:rY X.env.scope s:=by first|exact Or.inl rfl|exact Or.inr (Or.inl rfl)|exact Or.inr (Or.inr rfl)) (hd:(s==("__debug__":Str))=false:=by decide) (kJ:(s==("__classdict__":Str))=false:=by decide)
  (lV:(x==("__debug__":Str))=false:=by decide) (he:bK (.Name s p1::es) X.env=(false,cO (.Name s p1) X.env)::bK es X.env:=by rfl) (jM:(dq pos (bK es X.env)).any (·.1)=false:=by rfl) :
  XM X ct ms (.Call (.Name x pp) (.Name s p1::es) [] pos) (mE i gs mf):=by
 obtain⟨t,pt,qt⟩:=ha
 refine⟨_,K2 (kF:=[]) (E:=E0) Fn (hr.mono oZ) hg d.mgx d.fn.kp d.bd .nil nc (yw (wj hN hv hd kJ) pt he) lV he jM,λF0 B F H ρ ρ' σ d Q rs e z=>?_⟩
 obtain⟨pd,yN,h1,h2,h3⟩:=eM e
 by_cases hc:kY pd=true
 ·rw[if_pos hc]at h3
  obtain⟨a0,hσ,_⟩:=hC _ _ _ _ _ _ _ rs (zt h1) hc
  refine⟨_,hσ,qt F0 B F H ρ σ yN _ rs h2 λws F1 H1 x1 l2=>?_⟩
  show qS X.K ct 0 m mf ((V.ref a0::ws)++[]) H1 Q E0
  rw[cV]
  exact HX hC rs x1 (zt h1) hc hσ l2 (hn _ _ h2) h3 z
 ·rw[if_neg hc]at h3;cases h3
noncomputable def gz (i c0:Nat)(m:Str)(gs:Env->Option (List D))(mf:List D->Option D):EM:=λρ=>(eV i ρ).bind λp=>(gs ρ).bind λes=>match p with
 |.obj c ns _=>if c=c0/\ns.contains m=false then(mf (p::es)).bind (xE i ρ)else none
 |_=>none
theorem ub {gs:Env->Option (List D)}{mm qn:Str}(hC:n4 X.K ct ms i)(c:ma X.K (ct c0))(d:Dm X.K (ct c0) mm qn Ew ps fa fd)(Fn:dm X.prog X.w X.K X.mg X.base fK kk fa fd ps (qS X.K ct 0 m mf))(hr:eG kq X.A)(hn:∀ρ ds,gs ρ=some ds->ds.length=m)(ha:BD X ct ms (e::es) gs)(oZ:kk<=kq:=by decide)
  (hN:X.N[i]?=some s:=by rfl) (hv:rY X.env.scope s:=by first|exact Or.inl rfl|exact Or.inr (Or.inl rfl)|exact Or.inr (Or.inr rfl)) (hd:(s==("__debug__":Str))=false:=by decide) (kJ:(s==("__classdict__":Str))=false:=by decide)
  (mj:bK (e::es) X.env=(false,cO e X.env)::bK es X.env:=by rfl) (jM:(dq pos (bK es X.env)).any (·.1)=false:=by rfl)
  (ht:cO (.Call (.Attribute (.Name s p1) mm fT) (e::es) [] pos) X.env=(do
   let ov ← cO (.Name s p1) X.env
   jO fT.atName
   let(f,first) ← gh [ov] (iK ov mm pl)
   jY pos f first (dq pos (bK (e::es) X.env)) (gk pos (ek [] X.env))):=by rfl) :
  XM X ct ms (.Call (.Attribute (.Name s p1) mm fT) (e::es) [] pos) (gz i c0 mm gs mf):=by
 obtain⟨t,pt,qt⟩:=ha
 refine⟨_,K3 (kF:=[]) (E:=E0) (wj hN hv hd kJ) c d.me Fn (hr.mono oZ) d.bd .nil nc pt mj jM ht,λF0 B F H ρ ρ' σ d Q rs e z=>?_⟩
 obtain⟨pd,yN,h1,h2,h3⟩:=eM e
 cases pd with
 |obj c ns ds=>
  dsimp only at h3
  by_cases hz:c=c0/\ns.contains mm=false
  ·rw[if_pos hz]at h3
   obtain⟨rfl,hz⟩:=hz
   obtain⟨a0,hσ,oa,_⟩:=hC _ _ _ _ _ _ _ rs (zt h1) rfl
   obtain⟨a,dx,vs,fr,e1,e2,hF,hH,hl,ol⟩:=oa.obj_inv
   cases e1
   refine⟨_,hσ,a0,dx,_,rfl,hH,jt (vs:=vs) hz,qt F0 B F H ρ σ yN _ rs h2 λws F1 H1 x1 l2=>?_⟩
   show qS X.K ct 0 m mf (V.ref a0::(ws++[])) H1 Q E0
   rw[cV]
   exact HX hC rs x1 (zt h1) rfl hσ l2 (hn _ _ h2) h3 z
  ·rw[if_neg hz]at h3;cases h3
 |_=>cases h3
noncomputable def DL (X:Cx)(ct:Nat->bI)(m:Nat)(L:List (Str×bC))(tb:List (Str×(List D->Option D))):Prop:=∀k mf,tb.lookup k=some mf->∃f kk fd ps,L.lookup k=some (.ref f)/\dm X.prog X.w X.K X.mg X.base fK kk f fd ps (qS X.K ct 0 m mf)/\eG kk X.A/\ei X.K (.ref f)=true/\fO X.K fd ps []
theorem Uo:DL X ct m L []:=λk mf h=>by cases h
theorem vc {tb:List (Str×(List D->Option D))}{k:Str}(hl:L.lookup k=some (.ref fa))(d:kA X.K X.mg x Ew ps fa fd)(Fn:dm X.prog X.w X.K X.mg X.base fK kk fa fd ps (qS X.K ct 0 m mf))(hr:eG kq X.A)(t:DL X ct m L tb)(oZ:kk<=kq:=by decide):DL X ct m L ((k,mf)::tb):=λk' NS h=>by
 rw[cq]at h
 cases e:k'==k with
 |true=>
  rw[e]at h
  cases h
  rw[eq_of_beq e]
  exact⟨fa,kk,fd,ps,hl,Fn,hr.mono oZ,d.fn.kp,d.bd⟩
 |false=>
  rw[e]at h
  exact t k' NS h
noncomputable def nI (i:Nat)(f:EF)(gs:Env->Option (List D))(tb:List (Str×(List D->Option D))):EM:=λρ=>(f ρ).bind λk=>match k with
 |.str z=>(tb.lookup z).bind λmf=>mE i gs mf ρ
 |_=>none
theorem RQ {gs:Env->Option (List D)}{p3:mZ}{da:bI}{tb:List (Str×(List D->Option D))}(hC:n4 X.K ct ms i)(K:KD X.K X.w X.mg x da L)(hT:DL X ct m L tb)(hk:XE X ct ms n c f)(hn:∀ρ ds,gs ρ=some ds->ds.length=m)(ha:BD X ct ms es gs)(hg:Gl X x:=by rfl)(hs:wI c:=by exactλ_ _=>rfl)
  (hN:X.N[i]?=some s:=by rfl) (hv:rY X.env.scope s:=by first|exact Or.inl rfl|exact Or.inr (Or.inl rfl)|exact Or.inr (Or.inr rfl)) (hd:(s==("__debug__":Str))=false:=by decide) (kJ:(s==("__classdict__":Str))=false:=by decide)
  (lV:(x==("__debug__":Str))=false:=by decide) (he:bK (.Name s p1::es) X.env=(false,cO (.Name s p1) X.env)::bK es X.env:=by rfl) (jM:(dq pos (bK es X.env)).any (·.1)=false:=by rfl) :
  XM X ct ms (.Call (.Subscript (.Name x p2) c p3) (.Name s p1::es) [] pos) (nI i f gs tb):=by
 obtain⟨t,pt,qt⟩:=ha
 obtain⟨tk,NY,NZ⟩:=hk
 refine⟨_,TY (F:=λk f sp=>∃mf,tb.lookup k=some mf/\L.lookup k=some (.ref f)/\sp=qS X.K ct 0 m mf) (E:=E0) K (λk f sp ⟨mf,h1,h2,h3⟩=>?_) nc hg NY hs (yw (wj hN hv hd kJ) pt he) lV he jM,λF0 B F H ρ ρ' σ d Q rs e z=>?_⟩
 ·obtain⟨f',kk,fd,ps,q1,q2,q3,q4,q5⟩:=hT k mf h1
  rw[h2]at q1
  cases q1
  rw[h3]
  exact⟨kk,fd,ps,q2,q3,q4,q5⟩
 ·obtain⟨y,h1,h2⟩:=ck e
  cases y with
  |str zz=>
   obtain⟨mf,h3,h4⟩:=ck h2
   obtain⟨f',kk,fd,ps,q1,q2,q3,q4,q5⟩:=hT zz mf h3
   refine NZ F0 B F H ρ σ _ _ rs h1 λv F1 H1 x1 l1=>⟨zz,f',_,l1.str,q1,⟨mf,h3,q1,rfl⟩,?_⟩
   have pA:=rs.ext x1
   obtain⟨pd,yN,g1,g2,g3⟩:=eM h4
   by_cases hc:kY pd=true
   ·rw[if_pos hc]at g3
    obtain⟨a0,hσ,_⟩:=hC _ _ _ _ _ _ _ pA (zt g1) hc
    refine⟨_,hσ,qt F0 B F1 H1 ρ σ yN _ pA g2 λws F2 H2 x2 l2=>?_⟩
    exact HX hC pA x2 (zt g1) hc hσ l2 (hn _ _ g2) g3 z
   ·rw[if_neg hc]at g3;cases g3
  |_=>cases h2
theorem HK (he:XM X ct ms e gm):tE X ct ms [.Return (some e) pos] gm:=by
 obtain⟨t,pt,qt⟩:=he
 exact⟨_,HC (DD pt),λF0 B F H ρ ρ' σ d E rs e z=>qt F0 B F H ρ ρ' σ d _ rs e λv F' H' r l=>z v σ F' H' r l⟩
noncomputable def GB (i:Nat)(g:EM):EM:=λρ=>(g ρ).bind λr=>some (r.1,r.2.set i none)
theorem UV {dW:List dH}(hm:ms[i]?=some (.ow k))(h:tE X ct (ms.set i (.ow 0)) dW gm):tE X ct ms dW (GB i gm):=by
 obtain⟨t,pt,qt⟩:=h
 refine⟨t,pt,λF0 B F H ρ ρ' σ d E rs e z=>?_⟩
 obtain⟨F',r2⟩:=rs.fz hm
 obtain⟨⟨d1,ρ1⟩,e1,e2⟩:=ck e
 cases e2
 refine qt F0 B F' H ρ ρ1 σ _ E r2 e1 λv σ' F2 H2 r l=>z v σ' F2 H2 ?_ l
 have:=r.forget (.ow k) i
 rw[JN hm]at this
 exact this
theorem Qb {lo hi:Option Expr}{pl ph:PF}{p1}(he:XM X ct ms e gm)(hl:XP X ct ms lo pl)(hh:XP X ct ms hi ph):XM X ct ms (.Subscript e (.Slice lo hi none p1) pos) (λρ=>(gm ρ).bind λr=>(pl r.2).bind λl=>(ph r.2).bind λh=>(tW r.1 l h).bind λd=>some (d,r.2)):=by
 obtain⟨t,pt,qt⟩:=he
 obtain⟨t1,vE,vF⟩:=hl
 obtain⟨t2,nh,pY⟩:=hh
 refine⟨_,Kv Um pt vE nh,λF0 B F H ρ ρ' σ r Q rs e w=>?_⟩
 obtain⟨⟨d,ρ1⟩,h1,h2⟩:=ck e
 obtain⟨l,hh,g2,h3,h4⟩:=eM h2
 obtain⟨d',h5,h6⟩:=ck h4
 cases h6
 refine qt F0 B F H ρ ρ1 σ d _ rs h1 λv F1 H1 r1 l1=>?_
 refine vF F0 B F1 H1 ρ1 σ l _ r1 g2 λF2 H2 x2=>?_
 refine pY F0 B F2 H2 ρ1 σ hh _ (r1.ext x2) h3 λF3 H3 x3=>?_
 cases d with
 |str y=>
  have h5:(if y.length<=16777216 then some (D.str (Txt.slice y l hh))else none)=some r:=h5
  by_cases hz:y.length<=16777216
  ·rw[if_pos hz]at h5
   cases h5
   cases l1
   exact⟨y,rfl,hz,w _ F3 H3 (r1.ext (x2.trans x3)) (.str _)⟩
  ·rw[if_neg hz]at h5;cases h5
 |_=>cases h5
theorem RR {op:qP}{o:D->D->Option D}(ho:jC X (dZ op) r)(hs:oP X.K ct 0 m 0 r o)(ha:XM X ct ms a gm)(hb:XE X ct ms m b g)(hm:dU op b=false):XM X ct ms (.Compare a [op] [b] pos) (λρ=>(gm ρ).bind λr=>(g r.2).bind λy=>(o r.1 y).bind λd=>some (d,r.2)):=by
 obtain⟨ta,pa,qa⟩:=ha
 obtain⟨tb,pb,qb⟩:=hb
 refine⟨_,K0 ho pa pb hm,λF0 B F H ρ ρ' σ d Q rs e w=>?_⟩
 obtain⟨⟨d1,ρ1⟩,h1,h2⟩:=ck e
 obtain⟨d2,h3,h4⟩:=ck h2
 obtain⟨d',h5,h6⟩:=ck h4
 cases h6
 refine qa F0 B F H ρ ρ1 σ d1 _ rs h1 λx F1 H1 r1 l1=>?_
 refine qb F0 B F1 H1 ρ1 σ d2 _ r1 h3 λy F2 H2 x2 l2=>?_
 exact hs F2 H2 x y d1 d2 _ _ x2.fh (Dt.mono x2.ff l1) l2 h5 λv F3 H3 x3 l=>w v F3 H3 (r1.ext (x2.trans x3)) l
theorem RU (he:XM X ct ms e gm):XS X ct ms 0 (.Return (some e) pos) (λρ=>(gm ρ).bind λr=>some (.rt r.1)):=by
 obtain⟨t,pt,qt⟩:=he
 refine⟨_,DD pt,λF0 B F H ρ σ o E rs e z=>?_⟩
 obtain⟨⟨d,ρ'⟩,h1,h2⟩:=ck e
 cases h2
 exact qt F0 B F H ρ ρ' σ d _ rs h1 λv F' H' r l=>z v F' H' [] r.f0 r.bh r.fh r.nf (Ow.zero l) cQ λa z=>(by cases z)
noncomputable abbrev BM:=Env->Option (Bool×Env)
noncomputable def Ao (X:Cx)(ct:Nat->bI)(ms:List Mo)(e:Expr)(g:BM):Prop:=∃t,PT X e t/\∀(F0 B F H:Hp) (ρ ρ':Env) (σ:St) (b:Bool) (Q:Bool->Hp->Prop),RS X.K ct F0 B ms F H ρ σ->g ρ=some (b,ρ')->(∀F' H',RS X.K ct F0 B ms F' H' ρ' σ->Q b H')->t σ H Q
noncomputable def wM (X:Cx)(ct:Nat->bI)(ms:List Mo)(e:Expr)(g:BM):Prop:=∃t,PW X e t/\∀(F0 B F H:Hp) (ρ ρ':Env) (σ:St) (b:Bool) (Q:Bool->Hp->Prop),RS X.K ct F0 B ms F H ρ σ->g ρ=some (b,ρ')->(∀F' H',RS X.K ct F0 B ms F' H' ρ' σ->Q b H')->t σ H Q
noncomputable def mT (p:BF):BM:=λρ=>(p ρ).bind λb=>some (b,ρ)
noncomputable def Bf (p q:BM):BM:=λρ=>(p ρ).bind λr=>if r.1=true then some (true,r.2)else q r.2
noncomputable def vB (p q:BM):BM:=λρ=>(p ρ).bind λr=>if r.1=true then q r.2 else some (false,r.2)
noncomputable def pq (o:D->D->Option D)(f:EM)(g:EF):BM:=λρ=>(f ρ).bind λr=>(g r.2).bind λy=>(o r.1 y).bind λd=>(Ce d).bind λb=>some (b,r.2)
theorem Up (h:XT X ct ms e p):Ao X ct ms e (mT p):=by
 obtain⟨t,pt,qt⟩:=h
 refine⟨t,pt,λF0 B F H ρ ρ' σ b Q rs e z=>?_⟩
 obtain⟨b',h1,h2⟩:=ck e
 cases h2
 exact qt F0 B F H ρ σ _ _ rs h1 λF' H' x=>z F' H' (rs.ext x)
theorem wM.t {g:BM}(h:wM X ct ms e g):Ao X ct ms e g:=by
 obtain⟨t,pt,qt⟩:=h
 exact⟨t,pt.pt,qt⟩
theorem Lo {g:BM}(ha:Ao X ct ms a g):wM X ct ms (.BoolOp .Or [a] pos) g:=by
 obtain⟨t,pt,qt⟩:=ha
 exact⟨t,Ls pt,qt⟩
theorem QY {g:BM}(ha:Ao X ct ms a g):wM X ct ms (.BoolOp .And [a] pos) g:=by
 obtain⟨t,pt,qt⟩:=ha
 exact⟨t,KQ pt,qt⟩
theorem L5 {rest:List Expr}{g1 g2:BM}(ha:Ao X ct ms a g1)(hb:wM X ct ms (.BoolOp .Or (b::rest) pos) g2):wM X ct ms (.BoolOp .Or (a::b::rest) pos) (Bf g1 g2):=by
 obtain⟨t,pt,qt⟩:=ha
 obtain⟨u,pu,qu⟩:=hb
 refine⟨_,L8 pt pu,λF0 B F H ρ ρ' σ r Q rs e w=>?_⟩
 obtain⟨⟨x,ρ1⟩,h1,h2⟩:=ck e
 refine qt F0 B F H ρ ρ1 σ x _ rs h1 λF1 H1 r1=>?_
 cases x with
 |true=>rw[if_pos rfl]at h2 ⊢;cases h2;exact w F1 H1 r1
 |false=>rw[if_neg bV]at h2 ⊢;exact qu F0 B F1 H1 ρ1 ρ' σ r _ r1 h2 w
theorem RV {rest:List Expr}{g1 g2:BM}(ha:Ao X ct ms a g1)(hb:wM X ct ms (.BoolOp .And (b::rest) pos) g2):wM X ct ms (.BoolOp .And (a::b::rest) pos) (vB g1 g2):=by
 obtain⟨t,pt,qt⟩:=ha
 obtain⟨u,pu,qu⟩:=hb
 refine⟨_,Lu pt pu,λF0 B F H ρ ρ' σ r Q rs e w=>?_⟩
 obtain⟨⟨x,ρ1⟩,h1,h2⟩:=ck e
 refine qt F0 B F H ρ ρ1 σ x _ rs h1 λF1 H1 r1=>?_
 cases x with
 |true=>rw[if_pos rfl]at h2 ⊢;exact qu F0 B F1 H1 ρ1 ρ' σ r _ r1 h2 w
 |false=>rw[if_neg bV]at h2 ⊢;cases h2;exact w F1 H1 r1
theorem u7 {op:qP}{o:D->D->Option D}(ho:jC X (dZ op) r)(hs:oP X.K ct 0 m k r o)(ha:XM X ct ms a gm)(hb:XE X ct ms m b g)(hm:dU op b=false):Ao X ct ms (.Compare a [op] [b] pos) (pq o gm g):=by
 obtain⟨ta,pa,qa⟩:=ha
 obtain⟨tb,pb,qb⟩:=hb
 refine⟨_,K1 ho pa pb hm,λF0 B F H ρ ρ' σ b Q rs e w=>?_⟩
 obtain⟨⟨d1,ρ1⟩,h1,h2⟩:=ck e
 obtain⟨d2,h3,h4⟩:=ck h2
 obtain⟨d,h5,h6⟩:=ck h4
 obtain⟨b',h7,h8⟩:=ck h6
 cases h8
 rw[vi h7]at h5
 refine qa F0 B F H ρ ρ1 σ d1 _ rs h1 λx F1 H1 r1 l1=>?_
 refine qb F0 B F1 H1 ρ1 σ d2 _ r1 h3 λy F2 H2 x2 l2=>?_
 exact hs F2 H2 x y d1 d2 _ _ x2.fh (Dt.mono x2.ff l1) l2 h5 λv F3 H3 x3 l=>⟨b,l.bl,w F3 H3 (r1.ext (x2.trans x3))⟩
noncomputable def oC (p:BM)(u w:SF):SF:=λρ=>(p ρ).bind λr=>if r.1=true then u r.2 else w r.2
theorem E9 {Dr yC:List dH}{g:BM}(hc:Ao X ct ms c g)(h1:rF X ct ms rk Dr u)(h2:rF X ct ms rk yC w):XS X ct ms rk (.If c Dr yC pos) (oC g u w):=by
 obtain⟨t,pt,qt⟩:=hc
 obtain⟨t1,vE,vF⟩:=h1
 obtain⟨t2,nh,pY⟩:=h2
 refine⟨_,L9 pt vE nh,λF0 B F H ρ σ o E rs e z=>?_⟩
 obtain⟨⟨x,ρ1⟩,h1,h2⟩:=ck e
 refine qt F0 B F H ρ ρ1 σ x _ rs h1 λF1 H1 r1=>?_
 cases x with
 |true=>rw[if_pos rfl]at h2 ⊢;exact vF F0 B F1 H1 ρ1 σ o E r1 h2 z
 |false=>rw[if_neg bV]at h2 ⊢;exact pY F0 B F1 H1 ρ1 σ o E r1 h2 z
theorem KN {qn:Str}(M:Dc X.K X.mg x (ct c0))(d:Dm X.K (ct c0) "__init__" qn Ew ps fa fd)(Fn:dm X.prog X.w X.K X.mg X.base fK kk fa fd ps (tq X.K ct cs [] mi))(hr:eG kq X.A)(wU:c0∈cs:=by decide)(oZ:kk+1<=kq:=by decide)(hg:Gl X x:=by rfl)(lV:(x==("__debug__":Str))=false:=by decide) :
  XO X ct ms 1 (.Call (.Name x pp) [] [] pos) (λ_=>mi c0 []):=by
 refine⟨_,QA (kF:=[]) (E:=E0) ⟨M.mks,d.me.at_,d.me.fn,M.kp⟩ Fn (hr.mono oZ) hg M.mgx d.bd .nil nc lV,λF0 B F H ρ σ r Q rs e w y dy hy FQ mN=>?_⟩
 have sH:cR H (rH (fM (fM H dy (.own y)) y (.ins (ct c0) dy [])) y):=λb o h=>by
  have n1:b≠y:=zu h hy
  rw[uu n1,zp n1,zp (zu h FQ)]
  exact h
 refine⟨F,c0,[],r,y,dy,[],wU,rfl,zw,rs.fh.free hy,rs.fh.trans (sH.trans (jx _ _)),.nil,e,λF' H' s1 s2 s3 s4 hn ow=>⟨rfl,?_⟩⟩
 refine w _ F' H' [y] ⟨s1,sH.trans s2,s3,λb o h t n=>s4 b o (sH _ _ h) t n⟩ ow (by simp) λb z=>?_
 rw[cj]at z
 subst z
 exact hy
end
noncomputable def DQ (L:List (Str×bC)):List (Str×bI)->Prop
 |[]=>True
 |(k,f)::t=>L.lookup k=some (.ref f)/\DQ L t
noncomputable def KF (K:bG)(w:cY)(mg:Str->Option bC)(x:Str)(dS:List (Str×bI)):Prop:=∃da L,KD K w mg x da L/\DQ L dS
section
variable {K:Frag}{h:bU}{da:bI}{es:Array DictEntry}{ep:Nat}{w:cY}{dS:List (Str×bI)}{u:bC}
theorem m_kc (X:K.In h)(G:h.Ns dg mg)(a:nsIn K dg x=some (some u))(q:KC K d u):∃u,mg x=some u/\KC K d u:=⟨u,mg_of X G a,q⟩
theorem m_kg (X:K.In h)(G:h.Ns dg mg)(a:nsIn K dg x=some (some (.ref da)))(l:K.lookup da=some ⟨.type "dict",none,.dict es ep,#[]⟩)(sy:(da==fU)=false)(e:EL w es.toList L)(q:KL K ts L):KG K w mg x ts:=⟨da,L,⟨mg_of X G a,sy,es,ep,l,e⟩,q⟩
theorem m_kf (X:K.In h)(G:h.Ns dg mg)(a:nsIn K dg x=some (some (.ref da)))(l:K.lookup da=some ⟨.type "dict",none,.dict es ep,#[]⟩)(sy:(da==fU)=false)(e:EL w es.toList L)(q:DQ L dS):KF K w mg x dS:=⟨da,L,⟨mg_of X G a,sy,es,ep,l,e⟩,q⟩
end
end
section
variable {a b c d e f g h i j k l m n o p q r s t x:Option D}{z:Env}
@[simp 2000] theorem Vi:eV 0 (a::z)=a:=rfl
@[simp 2000] theorem U7:d8 (a::z) 0 x=x::z:=rfl
@[simp 2000] theorem Vj:eV 1 (a::b::z)=b:=rfl
@[simp 2000] theorem U8:d8 (a::b::z) 1 x=a::x::z:=rfl
@[simp 2000] theorem Vk:eV 2 (a::b::c::z)=c:=rfl
@[simp 2000] theorem U9:d8 (a::b::c::z) 2 x=a::b::x::z:=rfl
@[simp 2000] theorem Vl:eV 3 (a::b::c::d::z)=d:=rfl
@[simp 2000] theorem Va:d8 (a::b::c::d::z) 3 x=a::b::c::x::z:=rfl
@[simp 2000] theorem Vm:eV 4 (a::b::c::d::e::z)=e:=rfl
@[simp 2000] theorem Vb:d8 (a::b::c::d::e::z) 4 x=a::b::c::d::x::z:=rfl
@[simp 2000] theorem Vn:eV 5 (a::b::c::d::e::f::z)=f:=rfl
@[simp 2000] theorem Vc:d8 (a::b::c::d::e::f::z) 5 x=a::b::c::d::e::x::z:=rfl
@[simp 2000] theorem Vo:eV 6 (a::b::c::d::e::f::g::z)=g:=rfl
@[simp 2000] theorem Vd:d8 (a::b::c::d::e::f::g::z) 6 x=a::b::c::d::e::f::x::z:=rfl
@[simp 2000] theorem Vp:eV 7 (a::b::c::d::e::f::g::h::z)=h:=rfl
@[simp 2000] theorem Ve:d8 (a::b::c::d::e::f::g::h::z) 7 x=a::b::c::d::e::f::g::x::z:=rfl
@[simp 2000] theorem Vq:eV 8 (a::b::c::d::e::f::g::h::i::z)=i:=rfl
@[simp 2000] theorem Vf:d8 (a::b::c::d::e::f::g::h::i::z) 8 x=a::b::c::d::e::f::g::h::x::z:=rfl
@[simp 2000] theorem Vr:eV 9 (a::b::c::d::e::f::g::h::i::j::z)=j:=rfl
@[simp 2000] theorem Vg:d8 (a::b::c::d::e::f::g::h::i::j::z) 9 x=a::b::c::d::e::f::g::h::i::x::z:=rfl
@[simp 2000] theorem MP:eV 10 (a::b::c::d::e::f::g::h::i::j::k::z)=k:=rfl
@[simp 2000] theorem MF:d8 (a::b::c::d::e::f::g::h::i::j::k::z) 10 x=a::b::c::d::e::f::g::h::i::j::x::z:=rfl
@[simp 2000] theorem MQ:eV 11 (a::b::c::d::e::f::g::h::i::j::k::l::z)=l:=rfl
@[simp 2000] theorem MG:d8 (a::b::c::d::e::f::g::h::i::j::k::l::z) 11 x=a::b::c::d::e::f::g::h::i::j::k::x::z:=rfl
@[simp 2000] theorem MR:eV 12 (a::b::c::d::e::f::g::h::i::j::k::l::m::z)=m:=rfl
@[simp 2000] theorem MH:d8 (a::b::c::d::e::f::g::h::i::j::k::l::m::z) 12 x=a::b::c::d::e::f::g::h::i::j::k::l::x::z:=rfl
@[simp 2000] theorem MS:eV 13 (a::b::c::d::e::f::g::h::i::j::k::l::m::n::z)=n:=rfl
@[simp 2000] theorem MI:d8 (a::b::c::d::e::f::g::h::i::j::k::l::m::n::z) 13 x=a::b::c::d::e::f::g::h::i::j::k::l::m::x::z:=rfl
@[simp 2000] theorem MT:eV 14 (a::b::c::d::e::f::g::h::i::j::k::l::m::n::o::z)=o:=rfl
@[simp 2000] theorem MJ:d8 (a::b::c::d::e::f::g::h::i::j::k::l::m::n::o::z) 14 x=a::b::c::d::e::f::g::h::i::j::k::l::m::n::x::z:=rfl
@[simp 2000] theorem MU:eV 15 (a::b::c::d::e::f::g::h::i::j::k::l::m::n::o::p::z)=p:=rfl
@[simp 2000] theorem MK:d8 (a::b::c::d::e::f::g::h::i::j::k::l::m::n::o::p::z) 15 x=a::b::c::d::e::f::g::h::i::j::k::l::m::n::o::x::z:=rfl
@[simp 2000] theorem MV:eV 16 (a::b::c::d::e::f::g::h::i::j::k::l::m::n::o::p::q::z)=q:=rfl
@[simp 2000] theorem ML:d8 (a::b::c::d::e::f::g::h::i::j::k::l::m::n::o::p::q::z) 16 x=a::b::c::d::e::f::g::h::i::j::k::l::m::n::o::p::x::z:=rfl
@[simp 2000] theorem MW:eV 17 (a::b::c::d::e::f::g::h::i::j::k::l::m::n::o::p::q::r::z)=r:=rfl
@[simp 2000] theorem MM:d8 (a::b::c::d::e::f::g::h::i::j::k::l::m::n::o::p::q::r::z) 17 x=a::b::c::d::e::f::g::h::i::j::k::l::m::n::o::p::q::x::z:=rfl
@[simp 2000] theorem MX:eV 18 (a::b::c::d::e::f::g::h::i::j::k::l::m::n::o::p::q::r::s::z)=s:=rfl
@[simp 2000] theorem MN:d8 (a::b::c::d::e::f::g::h::i::j::k::l::m::n::o::p::q::r::s::z) 18 x=a::b::c::d::e::f::g::h::i::j::k::l::m::n::o::p::q::r::x::z:=rfl
@[simp 2000] theorem MY:eV 19 (a::b::c::d::e::f::g::h::i::j::k::l::m::n::o::p::q::r::s::t::z)=t:=rfl
@[simp 2000] theorem MO:d8 (a::b::c::d::e::f::g::h::i::j::k::l::m::n::o::p::q::r::s::t::z) 19 x=a::b::c::d::e::f::g::h::i::j::k::l::m::n::o::p::q::r::s::x::z:=rfl
end
section
open PySem PySem.Spec PySem.W L2
open PyProof.Rows hiding St
section
variable {K:Frag}{h:bU}{q m:Str}{f N:bI}{oc dV kV doc pm iF ct:bC}{od an dd:Option bI}{yA:Array (Option bC)}{fd:bW}{ds:List bC}{vs:List V}{o:gH}{p:Nat}
theorem m_dc (X:K.In h)(G:h.Ns dg mg)(a:nsIn K dg x=some (some (.ref C)))(b:makesIn K C=true)(k:keepIn K (.ref C)=true)(c:ma K C):Dc K mg x C:=⟨c,mg_of X G a,b,k⟩
theorem m_dn (X:K.In h)(G:h.Ns dg mg)(a:nsIn K dg x=some (some (.ref f)))(l:K.lookup f=some ⟨oc,od,.func (fnOf x x (jH st) (fZ st) (cU st) dV kV doc pm an iF ct),yA⟩)
  (c:codeIn K iF x=true) (k:keepIn K (.ref f)=true) (b:fO K (fnOf x x (jH st) (fZ st) (cU st) dV kV doc pm an iF ct) ps []):kA K mg x st ps f (fnOf x x (jH st) (fZ st) (cU st) dV kV doc pm an iF ct):=⟨Lg l c k,mg_of X G a,b⟩
theorem m_dm (a:findIn K (.ref C) m=some (some (.ref f)))(i:isFn K (.ref f)=true)(l:K.lookup f=some ⟨oc,od,.func (fnOf m q (jH st) (fZ st) (cU st) dV kV doc pm an iF ct),yA⟩)
  (c:codeIn K iF q=true) (k:keepIn K (.ref f)=true) (b:fO K (fnOf m q (jH st) (fZ st) (cU st) dV kV doc pm an iF ct) ps []):Dm K C m q st ps f (fnOf m q (jH st) (fZ st) (cU st) dV kV doc pm an iF ct):=⟨Lg l c k,⟨a,i,k⟩,b⟩
theorem m_g {i:Int}{t:Tok}(X:K.In h)(G:h.Ns dg mg)(a:nsIn K dg x=some (some (.int i t))):∃t,mg x=some (.int i t):=⟨t,mg_of X G a⟩
theorem m_na (h:findIn K (.ref C) x=some none):eR K C x:=h
theorem m_be (m:Nat)(hm:m+ds.length=ps.length)(hd:fd.defaults=.ref T)(ho:K.lookup T=some o)(hs:o.data=.seq items n)(h:∀us:List bC,us.length=m->∃k,bindArgs fd ⟨us,[]⟩=seqItems? fd.defaults >>= k/\k (some items)=pure (ps.zip (us++ds))):fO K fd ps ds :=
 Lh m ho h hd hs hm
theorem m_bd (m j:Nat)(hm:m+vs.length=ps.length)(hd:fd.defaults=.ref T)(ho:K.lookup T=some o)(hs:o.data=.seq items n)(hv:c8 vs (items.toList.drop j))(h:∀us:List bC,us.length=m->∃k,bindArgs fd ⟨us,[]⟩=seqItems? fd.defaults >>= k/\k (some items)=pure (ps.zip (us++items.toList.drop j))) :
  ∃se,True/\c8 vs se/\fO K fd ps se:=⟨_,trivial,hv,Lh m ho h hd hs (by rw[←hv.length];exact hm)⟩
end
theorem m_al0 {P:Nat->Prop}:∀c∈([]:List Nat),P c:=λ_ h=>nomatch h
theorem m_al1 {P:Nat->Prop}{x:Nat}{xs:List Nat}(h:P x)(t:∀c∈xs,P c):∀c∈x::xs,P c:=λc hc=>by
 rcases bL.mp hc with rfl|hc
 ·exact h
 ·exact t c hc
end
section
variable {fd:bW}
theorem xv {o:Mo}(hm:ms[i]?=some o:=by rfl)(hl:o.lv=n:=by rfl)(hN:X.N[i]?=some x:=by rfl)(hv:rY X.env.scope x:=by first|exact Or.inl rfl|exact Or.inr (Or.inl rfl)|exact Or.inr (Or.inr rfl))(hd:(x==("__debug__":Str))=false:=by decide)
  (kJ:(x==("__classdict__":Str))=false:=by decide):XE X ct ms n (.Name x pos) (eV i):=Th i n hm hl hN hv hd kJ
theorem oV (hr:eG kq X.A)(ha:XE X ct ms n a f)(hb:XE X ct ms m b g):XT X ct ms (.Compare a [.Eq] [b] pos) (tb (e2 (fR false) f g)):=ji (k:=0) (HS hr.u64) w9 ha hb (f9 _)
theorem BV (hr:eG kq X.A)(ha:XE X ct ms n a f)(hb:XE X ct ms m b g):XT X ct ms (.Compare a [.NotEq] [b] pos) (tb (e2 (fR true) f g)):=ji (k:=0) (jg hr.u64) w9 ha hb (f9 _)
theorem vEq (hr:eG kq X.A)(ha:XE X ct ms n a f)(hb:XE X ct ms m b g):XE X ct ms 0 (.Compare a [.Eq] [b] pos) (e2 (fR false) f g):=qc (k:=0) (HS hr.u64) w9 ha hb (f9 _)
theorem Oq (hr:eG kq X.A)(ha:XE X ct ms n a f)(hb:XE X ct ms m b g):XE X ct ms 0 (.Compare a [.NotEq] [b] pos) (e2 (fR true) f g):=qc (k:=0) (jg hr.u64) w9 ha hb (f9 _)
theorem yD (ha:XE X ct ms n a f)(hb:XE X ct ms m b g):XT X ct ms (.Compare a [.Lt] [b] pos) (tb (e2 rK f g)):=ji (k:=0) Mb LM ha hb (f9 _)
theorem BU (ha:XE X ct ms n a f)(hb:XE X ct ms m b g):XT X ct ms (.Compare a [.Gt] [b] pos) (tb (e2 xU f g)):=ji (k:=0) Mc LN ha hb (f9 _)
theorem Ju (ha:XE X ct ms n a f)(hb:XE X ct ms m b g):XT X ct ms (.Compare a [.GtE] [b] pos) (tb (e2 BH f g)):=ji (k:=0) Md LO ha hb (f9 _)
theorem Ey (ha:XE X ct ms n a f)(hb:XE X ct ms m b g):XT X ct ms (.Compare a [.Is] [b] pos) (tb (e2 (uI false) f g)):=ji (k:=0) UQ Tq ha hb (f9 _)
theorem Oo (ha:XE X ct ms n a f)(hb:XE X ct ms m b g):XE X ct ms 0 (.Compare a [.Lt] [b] pos) (e2 rK f g):=qc (k:=0) Mb LM ha hb (f9 _)
theorem zV (ha:XE X ct ms n a f)(hb:XE X ct ms m b g):XE X ct ms 0 (.Compare a [.LtE] [b] pos) (e2 vA f g):=qc (k:=0) Tp R6 ha hb (f9 _)
theorem On (ha:XE X ct ms n a f)(hb:XE X ct ms m b g):XE X ct ms 0 (.Compare a [.Gt] [b] pos) (e2 xU f g):=qc (k:=0) Mc LN ha hb (f9 _)
theorem Om (ha:XE X ct ms n a f)(hb:XE X ct ms m b g):XE X ct ms 0 (.Compare a [.GtE] [b] pos) (e2 BH f g):=qc (k:=0) Md LO ha hb (f9 _)
theorem Bg (ha:XE X ct ms n a f)(hb:XE X ct ms m b g):XE X ct ms 0 (.BinOp a .Sub b pos) (e2 vM f g):=qy (k:=0) Tt Rp ha hb
theorem oDiv (ha:XE X ct ms n a f)(hb:XE X ct ms m b g):XE X ct ms 0 (.BinOp a .FloorDiv b pos) (e2 iw f g):=qy (k:=0) QE QK ha hb
theorem oMod (ha:XE X ct ms n a f)(hb:XE X ct ms m b g):XE X ct ms 0 (.BinOp a .Mod b pos) (e2 eU f g):=qy (k:=0) Rr R4 ha hb
theorem rg (ha:XE X ct ms n a f)(hb:XE X ct ms m b g):XE X ct ms 0 (.BinOp a .Mult b pos) (e2 ig f g):=qy (k:=0) RE QM ha hb
theorem e7 (h:XO X ct ms k e f):XE X ct ms 0 e f:=XO.sh h
theorem xc (d:kA X.K X.mg x st ps fa fd)(Fn:dm X.prog X.w X.K X.mg X.base fK kk fa fd ps (jB X.K ct ns rk mf))(hr:eG kq X.A)(ha:XA X ct ms (e::es) ns fs)(oZ:kk<=kq:=by decide)(hg:Gl X x:=by rfl)
  (lV:(x==("__debug__":Str))=false:=by decide) (he:bK (e::es) X.env=(false,cO e X.env)::bK es X.env:=by rfl) (jM:(dq pos (bK es X.env)).any (·.1)=false:=by rfl) :
  XE X ct ms 0 (.Call (.Name x pp) (e::es) [] pos) (λρ=>(fs ρ).bind λds=>mf (ds++[])):=e7 (l5 d Fn hr ha oZ hg lV he jM)
theorem lO (he:XE X ct ms 0 e f)(hc:∀c∈cs,ma X.K (ct c)/\eR X.K (ct c) x)(hb:fB e x X.env (cO e X.env)=cO e X.env:=by rfl):XE X ct ms 0 (.Attribute e x pos) (e1 (dc cs x) f):=LL (n:=0) he hc hb
theorem vX (he:XE X ct ms 1 e f)(hc:∀c∈cs,ma X.K (ct c)/\eR X.K (ct c) x)(hb:fB e x X.env (cO e X.env)=cO e X.env:=by rfl):XE X ct ms 0 (.Attribute e x pos) (e1 (dc cs x) f):=LL (n:=1) he hc hb
theorem Eg (ha:XE X ct ms 1 a f)(hb:XE X ct ms m b g)(hp:oQ b:=by exactλ_ _=>rfl):XE X ct ms 0 (.Subscript a b pos) (e2 dY f g):=Ma (n:=1) LJ LP ha hb hp
theorem Bt {i:Int}(hm:∃t,X.mg x=some (.int i t))(hg:Gl X x:=by rfl)(hd:(x==("__debug__":Str))=false:=by decide):XE X ct ms 0 (.Name x pos) (eC (.int i)):=hm.elim λ_ h=>Sh hg h rfl ⟨_,rfl⟩ hd
theorem xF (hi:XI X ct ms n tg iter fi)(hg:XG X ct ms n tg gg)(hb:rF X ct ms rk rest u)(hp:kD (cr X.prog X.w) X.A X.env X.xe:=by exact kD.never)(hc:X.calm=true:=by rfl)
  (hs:∀x,ed iter X.env x=pure x:=by intro _;rfl):XS X ct ms rk (.For tg iter rest [] pos) (sFor fi gg u):=Tn hi hg hb hp hc hs
theorem Ov (hc:XT X ct ms c p)(hb:rF X ct ms rk rest u)(hp:kD (cr X.prog X.w) X.A X.env X.xe:=by exact kD.never):XS X ct ms rk (.While c rest [] pos) (rl p u):=Ql hc hb hp
theorem kc (he:XE X ct ms 0 e f):XS X ct ms 0 (.Return (some e) pos) (sRet f):=ym (XE.ow he)
theorem oq (hN:X.N.Nodup)(he:XE X ct ms 0 e f)(hm:ms[i]?=some (.ow 0):=by rfl)(hi:X.N[i]?=some x:=by rfl)(hx:Loc X.env.scope x:=by first|exact Or.inl rfl|exact Or.inr rfl)
  (hs:eI e (some (.Name x pos')) pos.line X.env=pure false:=by rfl)
  (hf:X.fn x=true\/X.env.scope.names.lookup x=some .local:=by first|exact .inl rfl|exact .inr rfl|assumption):XS X ct ms rk (.Assign [.Name x pos'] e pos) (sSet i f):=mX hN (XE.ow he) hm hi hx hs hf
theorem lu (ht:XT X ct ms c p)(h:XS X ct ms rk st u):XS X ct ms rk (.If c [st] [] pos) (sIf p u sSkip):=By ht (zj h) wq
theorem zW (hi:An X ct ms n tg iter fi)
  (hg:∀cl C fp s₀ H₀,N.Nodup->xS (lC X scope cl N C fp s₀ H₀) ct (om++iI ms cap) own n tg gg) (ht:∀cl C fp s₀ H₀,Ap (lC X scope cl N C fp s₀ H₀) ct (om++iI ms cap) ifs p) (he:∀cl C fp s₀ H₀,XO (lC X scope cl N C fp s₀ H₀) ct (om++iI ms cap) k mV f)
  (nd:N.Nodup:=by decide +kernel) (B:mD X scope N own cap:=by exact LU (by rfl)) (hc:X.calm=true:=by rfl) (ho:om.length=own:=by rfl) (oX:∀i∈cap,i<ms.length:=by decide)
  (hs:∀x,ed iter X.env x=pure x:=by intro _;rfl):XO X ct ms (k+1) (.ListComp mV [⟨tg,iter,ifs,0⟩] scope pos) (gK fi own cap gg p f):=R9 B hc ho oX hi (λcl C fp s₀ H₀=>hg cl C fp s₀ H₀ nd) ht he hs
theorem DC {sI:mZ}(hN:X.N.Nodup)(hi:An X ct ms n tg iter fi)
  (hg:∀cl C fp s₀ H₀,N.Nodup->xS (lC X scope cl N C fp s₀ H₀) ct (om++iI ms cap) own n tg gg) (ht:∀cl C fp s₀ H₀,Ap (lC X scope cl N C fp s₀ H₀) ct (om++iI ms cap) ifs p) (he:∀cl C fp s₀ H₀,XO (lC X scope cl N C fp s₀ H₀) ct (om++iI ms cap) (k-1) mV f)
  (nd:N.Nodup:=by decide +kernel) (hm:ms[i]?=some (.ow k):=by rfl) (Cz:X.N[i]?=some x:=by rfl) (hx:Loc X.env.scope x:=by first|exact Or.inl rfl|exact Or.inr rfl)
  (B:mD X scope N own cap:=by exact LU (by rfl)) (hc:X.calm=true:=by rfl) (ho:om.length=own:=by rfl) (oX:∀i∈cap,i<ms.length:=by decide)
  (yV:eI (.ListComp mV [⟨tg,iter,ifs,0⟩] scope pos) (some (.Name x pos')) sI.line X.env=pure true:=by rfl)
  (hs:∀x,ed iter X.env x=pure x:=by intro _;rfl) (hf:X.fn x=true\/X.env.scope.names.lookup x=some .local:=by first|exact .inl rfl|exact .inr rfl|assumption) :
  XS X ct ms rk (.Assign [.Name x pos'] (.ListComp mV [⟨tg,iter,ifs,0⟩] scope pos) sI) (sSet i (gK fi own cap gg p f)):=Pq hm hN Cz hx B hc ho oX hi (λcl C fp s₀ H₀=>hg cl C fp s₀ H₀ nd) ht he yV hs hf
theorem yE {q:Str}(M:Dc X.K X.mg x (ct c0))(d:Dm X.K (ct c0) "__init__" q st ps fa fd)(Fn:dm X.prog X.w X.K X.mg X.base fK kk fa fd ps (tq X.K ct cs ns mi))(hr:eG kq X.A)(ha:XA X ct ms (e::es) ns fs)(wU:c0∈cs:=by decide)(oZ:kk+1<=kq:=by decide)(hg:Gl X x:=by rfl)
  (lV:(x==("__debug__":Str))=false:=by decide) (he:bK (e::es) X.env=(false,cO e X.env)::bK es X.env:=by rfl) (jM:(dq pos (bK es X.env)).any (·.1)=false:=by rfl) :
  XO X ct ms 1 (.Call (.Name x pp) (e::es) [] pos) (λρ=>(fs ρ).bind λds=>mi c0 (ds++[])) :=
 Sq (ns:=ns) (nd:=[]) (mh:=[]) ⟨M.mks,d.me.at_,d.me.fn,M.kp⟩ wU (by rw[cV];exact Fn) (hr.mono oZ) hg M.mgx d.bd .nil (λ_ _=>.nil) ha lV he jM
end
section
variable {w:cY}{N0:Str}{fd:bW}
theorem lf (Fn:Fun2 K x qual st fa fd)(body:∀(iF:bC) (A:c7) (outer:List PySem.Env) (s:bP) (H:Hp) (E:XK),eG kk (A.deeper (envOfC qual (cU st) s.heap.objs.size fa iF))->N.Nodup->rF (oW fK P w K mg base N qual (cU st) fa iF A outer s H E).nox ct ms rk (fZ st) bf)
  (S:fX N ps (cU st):=by exact⟨rfl,rfl,rfl,by decide +kernel,rfl,by decide +kernel,by decide +kernel⟩)
  (yS:pm.length=ps.length:=by rfl) (BK:ms.length=N.length:=by rfl) (oZ:ps.length<=N.length:=by decide) (AX:∀(i n:Nat),pm[i]?=some n->ms[i]?=some (Mo.al n)\/(n=0/\ms[i]?=some (Mo.ow 0)):=by exact jv (by decide)) :
  dm P w K mg base fK (kk+1) fa fd ps (jB K ct pm rk (mOf N bf)):=lift Fn S yS BK oZ AX λa b c d e f g=>body a b c d e f g S.nd
theorem BQ (Fn:Fun2 K x qual st fa fd)(body:∀(x:bI) (iF:bC) (A:c7) (outer:List PySem.Env) (s:bP) (H:Hp) (E:XK),eG kk (A.deeper (envOfC qual (cU st) s.heap.objs.size fa iF))->(N0::N).Nodup->rF (oW fK P w K mg base (N0::N) qual (cU st) fa iF A outer s H E).nox ct (.so x::ms) rk (fZ st) bf)
  (S:fX (N0::N) ps (cU st):=by exact⟨rfl,rfl,rfl,by decide +kernel,rfl,by decide +kernel,by decide +kernel⟩)
  (yS:pm.length+1=ps.length:=by rfl) (BK:ms.length=N.length:=by rfl) (oZ:pm.length<=N.length:=by decide) (AX:∀(i n:Nat),pm[i]?=some n->ms[i]?=some (Mo.al n)\/(n=0/\ms[i]?=some (Mo.ow 0)):=by exact jv (by decide)) :
  dm P w K mg base fK (kk+1) fa fd ps (tq K ct cs pm (zD (N0::N) bf)):=P8 Fn S yS BK oZ AX λx a b c d e f g=>body x a b c d e f g S.nd
end
end L3
namespace My
open PySem L2 L3
noncomputable def top (i:Nat):dH:=PySem.Challenge.pw_ringbeat_k85_desk_told.main.body.getD i (.Pass ⟨0,0,0,0⟩)
noncomputable abbrev pB:dH:=inClass (top 43) 0
noncomputable abbrev p5:dH:=inClass (top 44) 0
noncomputable abbrev p6:dH:=inClass (top 45) 0
noncomputable abbrev pZ:dH:=inClass (top 46) 0
noncomputable abbrev sm:dH:=inClass (top 44) 1
noncomputable abbrev sq:dH:=inClass (top 45) 1
noncomputable abbrev sk:dH:=inClass (top 46) 1
noncomputable abbrev my:dH:=inClass (top 43) 1
noncomputable abbrev lE:dH:=inClass (top 43) 2
noncomputable abbrev tP:dH:=inClass (top 44) 3
noncomputable abbrev tQ:dH:=inClass (top 45) 3
noncomputable abbrev tO:dH:=inClass (top 46) 3
noncomputable abbrev sv:dH:=top 53
noncomputable abbrev su:dH:=top 54
noncomputable abbrev vH:dH:=top 55
noncomputable abbrev sr:dH:=top 56
noncomputable abbrev qA:dH:=top 57
noncomputable abbrev tS:dH:=top 58
noncomputable abbrev oG:dH:=top 59
noncomputable abbrev rm:dH:=inClass (top 63) 0
noncomputable abbrev sx:dH:=top 97
noncomputable abbrev p7:dH:=top 98
noncomputable abbrev nM:dH:=top 99
noncomputable abbrev pF:dH:=top 100
noncomputable abbrev nN:dH:=top 101
noncomputable abbrev pD:dH:=top 102
noncomputable abbrev nL:dH:=top 103
noncomputable abbrev oE:dH:=top 104
noncomputable abbrev zP:dH:=top 105
noncomputable abbrev rq:dH:=top 111
noncomputable abbrev tR:dH:=top 112
noncomputable abbrev oF:dH:=top 113
noncomputable abbrev xI:dH:=top 114
noncomputable abbrev rn:dH:=top 115
noncomputable abbrev mJ:dH:=top 118
noncomputable abbrev mG:dH:=top 119
noncomputable abbrev mH:dH:=top 120
noncomputable abbrev pG:dH:=top 121
noncomputable abbrev sE:dH:=top 122
noncomputable abbrev mI:dH:=top 123
noncomputable abbrev pE:dH:=top 126
noncomputable abbrev p4:dH:=inClass (top 136) 0
noncomputable abbrev pC:dH:=inClass (top 136) 1
noncomputable abbrev p9:dH:=top 138
noncomputable abbrev sC:dH:=top 139
noncomputable abbrev sD:dH:=top 140
noncomputable abbrev sA:dH:=top 141
noncomputable abbrev vI:dH:=top 142
noncomputable abbrev tV:dH:=top 143
noncomputable abbrev tU:dH:=top 144
noncomputable abbrev tT:dH:=top 145
noncomputable abbrev Dp:dH:=top 146
theorem qz:fX ["desk","words"] ["desk","words"] (cU mJ):=⟨rfl,rfl,rfl,by decide +kernel,rfl,by decide +kernel,by decide +kernel⟩
theorem Oy:fX ["desk","arrows"] ["desk","arrows"] (cU mG):=⟨rfl,rfl,rfl,by decide +kernel,rfl,by decide +kernel,by decide +kernel⟩
theorem Oz:fX ["desk","words"] ["desk","words"] (cU mH):=⟨rfl,rfl,rfl,by decide +kernel,rfl,by decide +kernel,by decide +kernel⟩
theorem qm:fX ["desk","words","number"] ["desk","words"] (cU pG):=⟨rfl,rfl,rfl,by decide +kernel,rfl,by decide +kernel,by decide +kernel⟩
theorem x9:fX ["desk","words","arrows","number"] ["desk","words"] (cU mI):=⟨rfl,rfl,rfl,by decide +kernel,rfl,by decide +kernel,by decide +kernel⟩
theorem O1:fX ["desk","words"] ["desk","words"] (cU pE):=⟨rfl,rfl,rfl,by decide +kernel,rfl,by decide +kernel,by decide +kernel⟩
theorem uc:fX ["self","row","words","answer"] ["self","row"] (cU pC):=⟨rfl,rfl,rfl,by decide +kernel,rfl,by decide +kernel,by decide +kernel⟩
set_option genInjectivity false
set_option genSizeOf false
structure Adr where
 b:bI
 c:bI
 d:bI
 e:bI
 f:bI
 g:bI
 h:bI
 i:bI
 j:bW
 k:bI
 l:bW
 m:bI
 n:bW
 o:bI
 p:bW
 q:bI
 r:bW
 s:bI
 t:bW
 u:bI
 v:bW
 x:bI
 y:bW
 z:bI
 aa:bW
 ab:bI
 ac:bW
 ad:bI
 ae:bW
 af:bI
 ag:bW
 ah:bI
 ai:bW
 aj:bI
 ak:bW
 al:bI
 am:bW
 an:bI
 ao:bW
 ap:bI
 aq:bW
 ar:bI
 au:bW
 av:bI
 aw:bW
 ax:bI
 ay:bW
 az:bI
 aA:bW
 aB:bI
 aC:bW
 aD:bI
 aE:bW
 aF:bI
 aG:bW
 aH:bI
 aI:bW
 aJ:bI
 aK:bW
 aL:bI
 aM:bW
 aN:bI
 aO:bW
 aP:bI
 aQ:bW
 aR:bI
 aS:bW
 aT:bI
 aU:bW
 aV:bI
 aW:bW
 aX:bI
 aY:bW
 aZ:bI
 a0:bW
 a1:bI
 a2:bW
 a3:bI
 a4:bW
 a5:bI
 a6:bW
 a7:bI
 a8:bW
 a9:bI
 ba:bW
 bb:bI
 bc:bW
 bd:bI
 be:bW
 bf:bI
 bg:bW
 bh:bI
 bi:bW
 bj:bI
 bk:bW
 bl:bI
 bm:bW
 bn:bI
 bo:bW
 bp:bI
 bq:bW
 br:bI
 bs:bW
 bt:bI
 bu:bW
 bv:bI
 bw:bW
 bx:bI
 bz:bW
 bA:bI
 bB:bW
set_option genSizeOf true
set_option genInjectivity true
noncomputable def Adr.ct (a:Adr):Nat->bI
 |0=>a.b
 |1=>a.c
 |2=>a.d
 |3=>a.e
 |4=>a.f
 |5=>a.g
 |6=>a.h
 |_=>0
noncomputable def dw:D:=(.kt [(.str "cut"),(.str "change")])
noncomputable def fQ:D:=(.kt [(.str "late"),(.str "fate"),(.str "spare"),(.str "give")])
noncomputable def eJ:List (Str×D):=[("cut",(.kt [(.kt [(.int 0),(.int 999999999999999)])])),("change",(.kt [(.kt [(.int 0),(.int 999999999999999)]),(.kt [(.int 0),(.int 999999999999999)])])),("put",(.kt [.non,(.kt [(.int 0),(.int 400)]),(.kt [(.int 0),(.int 1000000000000)])])),("show",(.kt [])),("run",(.kt [(.kt [(.int 0),(.int 400)])])),("least",(.kt [])),("rate",(.kt [.non])),("again",(.kt [(.kt [(.int 1),(.int 200)])])),("late",(.kt [(.kt [(.int 0),(.int 400)])])),("fate",(.kt [(.kt [(.int 1),(.int 400)])])),("spare",(.kt [.non,.non])),("give",(.kt [.non,(.kt [(.int 0),(.int 60)])]))]
structure Txt (K:bG)(mg:Str->Option bC)(a:Adr)(w:cY):Prop where
 b:Dc K mg "Arrow" a.b
 c:Dc K mg "Ride" a.c
 d:Dc K mg "Wait" a.d
 e:Dc K mg "Back" a.e
 f:Dc K mg "Net" a.f
 g:Dc K mg "Table" a.g
 h:Dc K mg "Desk" a.h
 i:Dm K a.b "__init__" "Arrow.__init__" pB ["self","start","goal","time","behind"] a.i a.j
 j:Dm K a.c "__init__" "Ride.__init__" p5 ["self","start","goal","time"] a.k a.l
 k:Dm K a.d "__init__" "Wait.__init__" p6 ["self","start","goal","time","behind"] a.m a.n
 l:∃se,True/\c8 [(V.int 0)] se/\fO K a.n ["self","start","goal","time","behind"] se
 m:Dm K a.e "__init__" "Back.__init__" pZ ["self","start","goal","time","behind"] a.o a.p
 n:∃se,True/\c8 [(V.int 1)] se/\fO K a.p ["self","start","goal","time","behind"] se
 o:Dm K a.c "word" "Ride.word" sm ["self"] a.q a.r
 p:Dm K a.d "word" "Wait.word" sq ["self"] a.s a.t
 q:Dm K a.e "word" "Back.word" sk ["self"] a.u a.v
 r:Dm K a.b "row_to_time" "Arrow.row_to_time" my ["self","names"] a.x a.y
 s:Dm K a.b "row_to_behind" "Arrow.row_to_behind" lE ["self","names"] a.z a.aa
 t:Dm K a.c "row" "Ride.row" tP ["self","names"] a.ab a.ac
 u:Dm K a.d "row" "Wait.row" tQ ["self","names"] a.ad a.ae
 v:Dm K a.e "row" "Back.row" tO ["self","names"] a.af a.ag
 x:kA K mg "is_letter" sv ["sign"] a.ah a.ai
 y:kA K mg "is_figure" su ["sign"] a.aj a.ak
 z:kA K mg "is_name" vH ["word"] a.al a.am
 aa:kA K mg "are_names" sr ["names"] a.an a.ao
 ab:kA K mg "lies_within" qA ["number","least","most"] a.ap a.aq
 ac:kA K mg "is_right" tS ["arrow","many"] a.ar a.au
 ad:kA K mg "placed_goings" oG ["many","arrows"] a.av a.aw
 ae:Dm K a.f "__init__" "Net.__init__" rm ["self","names","arrows"] a.ax a.ay
 af:kA K mg "is_number" sx ["word"] a.az a.aA
 ag:kA K mg "are_numbers" p7 ["words"] a.aB a.aC
 ah:kA K mg "has_arrow_form" nM ["words"] a.aD a.aE
 ai:kA K mg "names_in_row" pF ["words"] a.aF a.aG
 aj:kA K mg "refuse_unknown" nN ["told","names"] a.aH a.aI
 ak:kA K mg "arrow_of_row" pD ["words","names"] a.aJ a.aK
 al:kA K mg "arrows_of_line" nL ["words","names"] a.aL a.aM
 am:kA K mg "arrows_of_row" oE ["words","names"] a.aN a.aO
 an:kA K mg "shown" zP ["net"] a.aP a.aQ
 ao:kA K mg "stands_for" rq ["word","slot"] a.aR a.aS
 ap:kA K mg "has_form" tR ["words"] a.aT a.aU
 aq:kA K mg "has_plan_form" oF ["words","many"] a.aV a.aW
 ar:kA K mg "is_row" xI ["desk","words"] a.aX a.aY
 au:kA K mg "names_told" rn ["words"] a.aZ a.a0
 av:kA K mg "tell_goings" mJ ["desk","words"] a.a1 a.a2
 aw:kA K mg "take_arrows" mG ["desk","arrows"] a.a3 a.a4
 ax:kA K mg "tell_arrows" mH ["desk","words"] a.a5 a.a6
 ay:kA K mg "tell_cut" pG ["desk","words"] a.a7 a.a8
 az:kA K mg "with_time" sE ["arrow","time"] a.a9 a.ba
 aA:kA K mg "tell_change" mI ["desk","words"] a.bb a.bc
 aB:kA K mg "ask_show" pE ["desk","words"] a.bd a.be
 aC:Dm K a.h "__init__" "Desk.__init__" p4 ["self"] a.bf a.bg
 aD:Dm K a.h "say" "Desk.say" pC ["self","row"] a.bh a.bi
 aE:kA K mg "_law_cell_at" p9 ["_law_script","_law_k"] a.bj a.bk
 aF:kA K mg "_law_mixed" sC ["_law_cell","_law_k"] a.bl a.bm
 aG:kA K mg "_law_names" sD ["_law_cell","_law_many"] a.bn a.bo
 aH:kA K mg "_law_arrow" sA ["_law_cell","_law_k","_law_many"] a.bp a.bq
 aI:kA K mg "_law_row" vI ["_law_names_here","_law_arrow_here"] a.br a.bs
 aJ:kA K mg "_law_rows" tV ["_law_names_here","_law_plain"] a.bt a.bu
 aK:kA K mg "_law_line" tU ["_law_cell","_law_many","_law_names_here"] a.bv a.bw
 aL:kA K mg "_law_deed" tT ["_law_cell","_law_k","_law_names_here","_law_plain"] a.bx a.bz
 aM:kA K mg "law" Dp ["_law_script"] a.bA a.bB
 aN:∃u,mg "WORDS_OF_ARROWS"=some u/\KC K dw u
 aO:∃u,mg "WORDS_OF_PLANS"=some u/\KC K fQ u
 aP:KG K w mg "FORMS" eJ
 aQ:KF K w mg "ANSWERS" [("goings",a.a1),("ride",a.a5),("wait",a.a5),("back",a.a5),("line",a.a5),("cut",a.a7),("change",a.bb),("show",a.bd)]
 aR:nH K a.c "row_to_behind" a.z
 aS:nH K a.c "row_to_time" a.x
 aT:nH K a.d "row_to_behind" a.z
 aU:nH K a.d "row_to_time" a.x
 aV:nH K a.e "row_to_behind" a.z
 aW:nH K a.e "row_to_time" a.x
 aX:Dq K a.b "__init__" a.i
 aY:∀c∈([6]:List Nat),ma K (a.ct c)/\eR K (a.ct c) "answered"
 aZ:∀c∈([4]:List Nat),ma K (a.ct c)/\eR K (a.ct c) "arrows"
 a0:∀c∈([0,1,2,3]:List Nat),ma K (a.ct c)/\eR K (a.ct c) "behind"
 a1:∀c∈([0,1,2,3]:List Nat),ma K (a.ct c)/\eR K (a.ct c) "goal"
 a2:∀c∈([4]:List Nat),ma K (a.ct c)/\eR K (a.ct c) "names"
 a3:∀c∈([5,6]:List Nat),ma K (a.ct c)/\eR K (a.ct c) "net"
 a4:∀c∈([6]:List Nat),ma K (a.ct c)/\eR K (a.ct c) "puts"
 a5:∀c∈([0,1,2,3]:List Nat),ma K (a.ct c)/\eR K (a.ct c) "start"
 a6:∀c∈([6]:List Nat),ma K (a.ct c)/\eR K (a.ct c) "table"
 a7:∀c∈([0,1,2,3]:List Nat),ma K (a.ct c)/\eR K (a.ct c) "time"
 a8:∀c∈([0,1,2,3,4,5,6]:List Nat),Ic K (a.ct c)/\eX K (.ref (a.ct c)) (.ref a.e)=some (qO [3] c)
 a9:∀c∈([0,1,2,3,4,5,6]:List Nat),Ic K (a.ct c)/\eX K (.ref (a.ct c)) (.ref a.c)=some (qO [1] c)
 ba:∀c∈([0,1,2,3,4,5,6]:List Nat),Ic K (a.ct c)/\eX K (.ref (a.ct c)) (.ref a.d)=some (qO [2] c)
 bb:mg "all"=none
 bc:mg "bool"=none
 bd:mg "enumerate"=none
 be:mg "int"=none
 bf:mg "isinstance"=none
 bg:mg "len"=none
 bh:mg "list"=none
 bi:mg "max"=none
 bj:mg "min"=none
 bk:mg "range"=none
 bl:mg "str"=none
 bm:mg "zip"=none
 bn:∃t,mg "MOST_ARROWS"=some (.int 120 t)
 bo:∃t,mg "MOST_BEHIND"=some (.int 4 t)
 bp:∃t,mg "MOST_FIGURES"=some (.int 15 t)
 bq:∃t,mg "MOST_NAMES"=some (.int 40 t)
 br:∃t,mg "MOST_PLANNED"=some (.int 1000000000000 t)
 bs:∃t,mg "MOST_SIGNS"=some (.int 8 t)
 bt:∃t,mg "MOST_TIME"=some (.int 1000000000 t)
variable {K:bG}{mg:Str->Option bC}
section
variable {P:dA}{w:cY}{base:bU}{a:Adr}{ct:Nat->bI}
noncomputable def ix:Nat->List D->Option D:=zD ["self","start","goal","time","behind"]
  (sSeq (kM [0,1,2,3] "start" (eV 1))
  (sSeq (kM [0,1,2,3] "goal" (eV 2))
  (sSeq (kM [0,1,2,3] "time" (eV 3))
  (kM [0,1,2,3] "behind" (eV 4)))))
theorem xw (T:Txt K mg a w):dm P w K mg base fK 1 a.i a.j ["self","start","goal","time","behind"] (tq K a.ct [0,1,2,3] [0,0,0,0] ix) :=
 BQ (ms:=[.ow 0,.ow 0,.ow 0,.ow 0]) (rk:=0) T.i.fn λ_ _ _ _ _ _ _ hr nd=>(zc (vw T.a5 xv) (zc (vw T.a1 xv) (zc (vw T.a7 xv) (zj (vw T.a0 xv)))))
noncomputable def gq:Nat->List D->Option D:=zD ["self","start","goal","time"]
  (rj [0,1,2,3] (aCons (eV 1) (aCons (eV 2) (aCons (eV 3) (aCons (eC (.int 0)) aNil)))) ix)
theorem wc (T:Txt K mg a w):dm P w K mg base fK 2 a.k a.l ["self","start","goal","time"] (tq K a.ct [1] [0,0,0] gq) :=
 BQ (ms:=[.ow 0,.ow 0,.ow 0]) (rk:=0) T.j.fn λ_ _ _ _ _ _ _ hr nd=>(zj (HJ (ns:=[0,0,0,0]) (xw T) (hr.mono (by decide)) T.b.mgx T.aX.sp T.aX.rd T.aX.fc T.i.fn.kp T.i.bd (by decide) (za xv (za xv (za xv (za dh ze))))))
noncomputable def gU:Nat->List D->Option D:=zD ["self","start","goal","time","behind"]
  (rj [0,1,2,3] (aCons (eV 1) (aCons (eV 2) (aCons (eV 3) (aCons (eV 4) aNil)))) ix)
theorem vx (T:Txt K mg a w):dm P w K mg base fK 2 a.m a.n ["self","start","goal","time","behind"] (tq K a.ct [2] [0,0,0,0] gU) :=
 BQ (ms:=[.ow 0,.ow 0,.ow 0,.ow 0]) (rk:=0) T.k.fn λ_ _ _ _ _ _ _ hr nd=>(zj (HJ (ns:=[0,0,0,0]) (xw T) (hr.mono (by decide)) T.b.mgx T.aX.sp T.aX.rd T.aX.fc T.i.fn.kp T.i.bd (by decide) (za xv (za xv (za xv (za xv ze))))))
noncomputable def fI:Nat->List D->Option D:=zD ["self","start","goal","time","behind"]
  (rj [0,1,2,3] (aCons (eV 1) (aCons (eV 2) (aCons (eV 3) (aCons (eV 4) aNil)))) ix)
theorem wd (T:Txt K mg a w):dm P w K mg base fK 2 a.o a.p ["self","start","goal","time","behind"] (tq K a.ct [3] [0,0,0,0] fI) :=
 BQ (ms:=[.ow 0,.ow 0,.ow 0,.ow 0]) (rk:=0) T.m.fn λ_ _ _ _ _ _ _ hr nd=>(zj (HJ (ns:=[0,0,0,0]) (xw T) (hr.mono (by decide)) T.b.mgx T.aX.sp T.aX.rd T.aX.fc T.i.fn.kp T.i.bd (by decide) (za xv (za xv (za xv (za xv ze))))))
noncomputable def ki:List D->Option D:=mOf ["self"]
  (sRet (eC (.str "ride")))
theorem OS (T:Txt K mg a w):dm P w K mg base fK 1 a.q a.r ["self"] (jB K a.ct [0] 0 ki) :=
 lf (ms:=[.ow 0]) T.o.fn λ_ _ _ _ _ _ hr nd=>(zj (kc (zl (n:=0))))
noncomputable def kj:List D->Option D:=mOf ["self"]
  (sRet (eC (.str "wait")))
theorem OG (T:Txt K mg a w):dm P w K mg base fK 1 a.s a.t ["self"] (jB K a.ct [0] 0 kj) :=
 lf (ms:=[.ow 0]) T.p.fn λ_ _ _ _ _ _ hr nd=>(zj (kc (zl (n:=0))))
noncomputable def kh:List D->Option D:=mOf ["self"]
  (sRet (eC (.str "back")))
theorem OH (T:Txt K mg a w):dm P w K mg base fK 1 a.u a.v ["self"] (jB K a.ct [0] 0 kh) :=
 lf (ms:=[.ow 0]) T.q.fn λ_ _ _ _ _ _ hr nd=>(zj (kc (zl (n:=0))))
noncomputable def cM:List D->Option D:=mOf ["self","names"]
  (sRet (e2 iJ (eC (.str " ")) (λρ=>((aCons (λρ=>((λρ=>((eV 0) ρ).bind λo=>gA 1 "word" ki o []) ρ).or ((λρ=>((λρ=>((eV 0) ρ).bind λo=>gA 2 "word" kj o []) ρ).or ((λρ=>((eV 0) ρ).bind λo=>gA 3 "word" kh o []) ρ)) ρ)) (aCons (e2 dY (eV 1) (e1 (dc [0,1,2,3] "start") (eV 0))) (aCons (e2 dY (eV 1) (e1 (dc [0,1,2,3] "goal") (eV 0))) (aCons (eN nr (aCons (e1 (dc [0,1,2,3] "time") (eV 0)) aNil)) aNil)))) ρ).bind λds=>some (.lst ds))))
theorem zq (T:Txt K mg a w):dm P w K mg base fK 2 a.x a.y ["self","names"] (jB K a.ct [0,0] 0 cM) :=
 lf (ms:=[.ow 0,.ow 0]) T.r.fn λ_ _ _ _ _ _ hr nd=>(zj (kc (wv (k:=0) (zl (n:=0)) (e7 (yb (k:=0) (zh (vt (Hf (n:=0) (c0:=1) (nd:=[]) (mh:=[]) xv T.c.cl T.o.me (OS T) (hr.mono (by decide)) T.o.bd .nil (λ_ _=>.nil)) (vt (Hf (n:=0) (c0:=2) (nd:=[]) (mh:=[]) xv T.d.cl T.p.me (OG T) (hr.mono (by decide)) T.p.bd .nil (λ_ _=>.nil)) (Hf (n:=0) (c0:=3) (nd:=[]) (mh:=[]) xv T.e.cl T.q.me (OH T) (hr.mono (by decide)) T.q.bd .nil (λ_ _=>.nil)))) (zh (XE.ow (iB xv (lO xv T.a5))) (zh (XE.ow (iB xv (lO xv T.a1))) (zh (XE.ow (zo (k:=0) ya x8 rfl T.bl wx (za (lO xv T.a7) ze))) zn)))))))))
noncomputable def cK:List D->Option D:=mOf ["self","names"]
  (sRet (e2 iJ (eC (.str " ")) (λρ=>((aCons (λρ=>((λρ=>((eV 0) ρ).bind λo=>((aCons (eV 1) aNil) ρ).bind λds=>gA 0 "row_to_time" cM o (ds++[])) ρ).or ((λρ=>((λρ=>((eV 0) ρ).bind λo=>((aCons (eV 1) aNil) ρ).bind λds=>gA 1 "row_to_time" cM o (ds++[])) ρ).or ((λρ=>((λρ=>((eV 0) ρ).bind λo=>((aCons (eV 1) aNil) ρ).bind λds=>gA 2 "row_to_time" cM o (ds++[])) ρ).or ((λρ=>((eV 0) ρ).bind λo=>((aCons (eV 1) aNil) ρ).bind λds=>gA 3 "row_to_time" cM o (ds++[])) ρ)) ρ)) ρ)) (aCons (eN nr (aCons (e1 (dc [0,1,2,3] "behind") (eV 0)) aNil)) aNil)) ρ).bind λds=>some (.lst ds))))
theorem zm (T:Txt K mg a w):dm P w K mg base fK 3 a.z a.aa ["self","names"] (jB K a.ct [0,0] 0 cK) :=
 lf (ms:=[.ow 0,.ow 0]) T.s.fn λ_ _ _ _ _ _ hr nd=>(zj (kc (wv (k:=0) (zl (n:=0)) (e7 (yb (k:=0) (zh (vt (yi (n:=0) (c0:=0) (ns:=[0]) (nd:=[]) (mh:=[]) xv T.b.cl T.r.me (zq T) (hr.mono (by decide)) T.r.bd .nil (λ_ _=>.nil) (za xv ze)) (vt (yi (n:=0) (c0:=1) (ns:=[0]) (nd:=[]) (mh:=[]) xv T.c.cl T.aS (zq T) (hr.mono (by decide)) T.r.bd .nil (λ_ _=>.nil) (za xv ze)) (vt (yi (n:=0) (c0:=2) (ns:=[0]) (nd:=[]) (mh:=[]) xv T.d.cl T.aU (zq T) (hr.mono (by decide)) T.r.bd .nil (λ_ _=>.nil) (za xv ze)) (yi (n:=0) (c0:=3) (ns:=[0]) (nd:=[]) (mh:=[]) xv T.e.cl T.aW (zq T) (hr.mono (by decide)) T.r.bd .nil (λ_ _=>.nil) (za xv ze))))) (zh (XE.ow (zo (k:=0) ya x8 rfl T.bl wx (za (lO xv T.a0) ze))) zn)))))))
noncomputable def jS:List D->Option D:=mOf ["self","names"]
  (sRet (λρ=>((λρ=>((eV 0) ρ).bind λo=>((aCons (eV 1) aNil) ρ).bind λds=>gA 0 "row_to_time" cM o (ds++[])) ρ).or ((λρ=>((λρ=>((eV 0) ρ).bind λo=>((aCons (eV 1) aNil) ρ).bind λds=>gA 1 "row_to_time" cM o (ds++[])) ρ).or ((λρ=>((λρ=>((eV 0) ρ).bind λo=>((aCons (eV 1) aNil) ρ).bind λds=>gA 2 "row_to_time" cM o (ds++[])) ρ).or ((λρ=>((eV 0) ρ).bind λo=>((aCons (eV 1) aNil) ρ).bind λds=>gA 3 "row_to_time" cM o (ds++[])) ρ)) ρ)) ρ)))
theorem O2 (T:Txt K mg a w):dm P w K mg base fK 3 a.ab a.ac ["self","names"] (jB K a.ct [0,0] 0 jS) :=
 lf (ms:=[.ow 0,.ow 0]) T.t.fn λ_ _ _ _ _ _ hr nd=>(zj (ym (vt (yi (n:=0) (c0:=0) (ns:=[0]) (nd:=[]) (mh:=[]) xv T.b.cl T.r.me (zq T) (hr.mono (by decide)) T.r.bd .nil (λ_ _=>.nil) (za xv ze)) (vt (yi (n:=0) (c0:=1) (ns:=[0]) (nd:=[]) (mh:=[]) xv T.c.cl T.aS (zq T) (hr.mono (by decide)) T.r.bd .nil (λ_ _=>.nil) (za xv ze)) (vt (yi (n:=0) (c0:=2) (ns:=[0]) (nd:=[]) (mh:=[]) xv T.d.cl T.aU (zq T) (hr.mono (by decide)) T.r.bd .nil (λ_ _=>.nil) (za xv ze)) (yi (n:=0) (c0:=3) (ns:=[0]) (nd:=[]) (mh:=[]) xv T.e.cl T.aW (zq T) (hr.mono (by decide)) T.r.bd .nil (λ_ _=>.nil) (za xv ze)))))))
noncomputable def jT:List D->Option D:=mOf ["self","names"]
  (sRet (λρ=>((λρ=>((eV 0) ρ).bind λo=>((aCons (eV 1) aNil) ρ).bind λds=>gA 0 "row_to_behind" cK o (ds++[])) ρ).or ((λρ=>((λρ=>((eV 0) ρ).bind λo=>((aCons (eV 1) aNil) ρ).bind λds=>gA 1 "row_to_behind" cK o (ds++[])) ρ).or ((λρ=>((λρ=>((eV 0) ρ).bind λo=>((aCons (eV 1) aNil) ρ).bind λds=>gA 2 "row_to_behind" cK o (ds++[])) ρ).or ((λρ=>((eV 0) ρ).bind λo=>((aCons (eV 1) aNil) ρ).bind λds=>gA 3 "row_to_behind" cK o (ds++[])) ρ)) ρ)) ρ)))
theorem O3 (T:Txt K mg a w):dm P w K mg base fK 4 a.ad a.ae ["self","names"] (jB K a.ct [0,0] 0 jT) :=
 lf (ms:=[.ow 0,.ow 0]) T.u.fn λ_ _ _ _ _ _ hr nd=>(zj (ym (vt (yi (n:=0) (c0:=0) (ns:=[0]) (nd:=[]) (mh:=[]) xv T.b.cl T.s.me (zm T) (hr.mono (by decide)) T.s.bd .nil (λ_ _=>.nil) (za xv ze)) (vt (yi (n:=0) (c0:=1) (ns:=[0]) (nd:=[]) (mh:=[]) xv T.c.cl T.aR (zm T) (hr.mono (by decide)) T.s.bd .nil (λ_ _=>.nil) (za xv ze)) (vt (yi (n:=0) (c0:=2) (ns:=[0]) (nd:=[]) (mh:=[]) xv T.d.cl T.aT (zm T) (hr.mono (by decide)) T.s.bd .nil (λ_ _=>.nil) (za xv ze)) (yi (n:=0) (c0:=3) (ns:=[0]) (nd:=[]) (mh:=[]) xv T.e.cl T.aV (zm T) (hr.mono (by decide)) T.s.bd .nil (λ_ _=>.nil) (za xv ze)))))))
noncomputable def jR:List D->Option D:=mOf ["self","names"]
  (sRet (λρ=>((λρ=>((eV 0) ρ).bind λo=>((aCons (eV 1) aNil) ρ).bind λds=>gA 0 "row_to_behind" cK o (ds++[])) ρ).or ((λρ=>((λρ=>((eV 0) ρ).bind λo=>((aCons (eV 1) aNil) ρ).bind λds=>gA 1 "row_to_behind" cK o (ds++[])) ρ).or ((λρ=>((λρ=>((eV 0) ρ).bind λo=>((aCons (eV 1) aNil) ρ).bind λds=>gA 2 "row_to_behind" cK o (ds++[])) ρ).or ((λρ=>((eV 0) ρ).bind λo=>((aCons (eV 1) aNil) ρ).bind λds=>gA 3 "row_to_behind" cK o (ds++[])) ρ)) ρ)) ρ)))
theorem O4 (T:Txt K mg a w):dm P w K mg base fK 4 a.af a.ag ["self","names"] (jB K a.ct [0,0] 0 jR) :=
 lf (ms:=[.ow 0,.ow 0]) T.v.fn λ_ _ _ _ _ _ hr nd=>(zj (ym (vt (yi (n:=0) (c0:=0) (ns:=[0]) (nd:=[]) (mh:=[]) xv T.b.cl T.s.me (zm T) (hr.mono (by decide)) T.s.bd .nil (λ_ _=>.nil) (za xv ze)) (vt (yi (n:=0) (c0:=1) (ns:=[0]) (nd:=[]) (mh:=[]) xv T.c.cl T.aR (zm T) (hr.mono (by decide)) T.s.bd .nil (λ_ _=>.nil) (za xv ze)) (vt (yi (n:=0) (c0:=2) (ns:=[0]) (nd:=[]) (mh:=[]) xv T.d.cl T.aT (zm T) (hr.mono (by decide)) T.s.bd .nil (λ_ _=>.nil) (za xv ze)) (yi (n:=0) (c0:=3) (ns:=[0]) (nd:=[]) (mh:=[]) xv T.e.cl T.aV (zm T) (hr.mono (by decide)) T.s.bd .nil (λ_ _=>.nil) (za xv ze)))))))
noncomputable def iW:List D->Option D:=mOf ["sign"]
  (sRet (eB (bAnd (tb (e2 vA (eC (.str "a")) (eV 0))) (tb (e2 vA (eV 0) (eC (.str "z")))))))
theorem jk (T:Txt K mg a w):dm P w K mg base fK 1 a.ah a.ai ["sign"] (jB K a.ct [0] 0 iW) :=
 lf (ms:=[.ow 0]) T.x.fn λ_ _ _ _ _ _ hr nd=>(zj (kc (w8 (zV (zl (n:=0)) xv) (wy (k:=0) (zV xv (zl (n:=0)))))))
noncomputable def iV:List D->Option D:=mOf ["sign"]
  (sRet (eB (bAnd (tb (e2 vA (eC (.str "0")) (eV 0))) (tb (e2 vA (eV 0) (eC (.str "9")))))))
theorem jl (T:Txt K mg a w):dm P w K mg base fK 1 a.aj a.ak ["sign"] (jB K a.ct [0] 0 iV) :=
 lf (ms:=[.ow 0]) T.y.fn λ_ _ _ _ _ _ hr nd=>(zj (kc (w8 (zV (zl (n:=0)) xv) (wy (k:=0) (zV xv (zl (n:=0)))))))
noncomputable def km:EF:=(gK (λρ=>((eV 0) ρ).bind Ft) 1 [] (gV 0) kE (eB (bOr (tb (λρ=>((aCons (eV 0) aNil) ρ).bind λds=>iW (ds++[]))) (tb (λρ=>((aCons (eV 0) aNil) ρ).bind λds=>iV (ds++[]))))))
noncomputable def jN:List D->Option D:=mOf ["word"]
  (sSeq (sIf (bOr (bNot (tb (e1 (pf "str") (eV 0)))) (bOr (tb (e2 rK (eN eO (aCons (eV 0) aNil)) (eC (.int 1)))) (tb (e2 xU (eN eO (aCons (eV 0) aNil)) (eC (.int 8)))))) (sRet (eC (.bl false))) sSkip)
  (sRet (eB (bAnd (tb (λρ=>((aCons (e2 dY (eV 0) (eC (.int 0))) aNil) ρ).bind λds=>iW (ds++[]))) (tb (eN kW (aCons km aNil)))))))
theorem Pt (T:Txt K mg a w):dm P w K mg base fK 2 a.al a.am ["word"] (jB K a.ct [0] 0 jN) :=
 lf (ms:=[.ow 0]) T.z.fn λ_ _ _ _ _ _ hr nd=>(zc (lu (XW.t (uj (wk (y0 (DK (k:=0) (by decide) T.bf T.bl wx xv))) (uj (yD (nu T.bg (za xv ze)) dh) (w6 (BU (nu T.bg (za xv ze)) (Bt T.bs)))))) (kc (wp (n:=0)))) (zj (kc (w8 (xc T.x (jk T) hr (za (iB xv dh) ze)) (wy (k:=0) (yx (k:=0) (ut rfl) ET rfl T.bb E3 (za (e7 (zW (N:=["sign"]) (om:=[.ow 0]) (cap:=[]) (own:=1) (XI.cc (LX (n:=0) xv)) (λ_ _ _ _ _ h=>(rN h)) (λ_ _ _ _ _=>x6) (λ_ _ _ _ _=>(XE.ow (Ig (xc T.x (jk T) hr (za xv ze)) (wy (k:=0) (xc T.y (jl T) hr (za xv ze)))))))) ze)))))))
noncomputable def dF:SF:=(sSeq (sIf (bOr (bNot (tb (λρ=>((aCons (eV 2) aNil) ρ).bind λds=>jN (ds++[])))) (tb (λρ=>((eV 2) ρ).bind λx=>((eV 1) ρ).bind λy=>(uE y x).bind λr=>some (.bl r.isSome)))) (sRet (eC (.bl false))) sSkip)
  (uL 1 (eV 2) (eC (.bl true))))
noncomputable def fE:List D->Option D:=mOf ["names","seen","name"]
  (sSeq (sIf (bOr (bNot (tb (e1 (pf "list") (eV 0)))) (bOr (tb (e2 rK (eN eO (aCons (eV 0) aNil)) (eC (.int 1)))) (tb (e2 xU (eN eO (aCons (eV 0) aNil)) (eC (.int 40)))))) (sRet (eC (.bl false))) sSkip)
  (sSeq (sSet 1 (eC (.dK [] [])))
  (sSeq (sFor (lsD (eV 0)) (gV 2) dF)
  (sRet (eC (.bl true))))))
theorem OI (T:Txt K mg a w):dm P w K mg base fK 3 a.an a.ao ["names"] (jB K a.ct [0] 0 fE) :=
 lf (ms:=[.ow 0,.ow 1,.ow 0]) T.aa.fn λ_ _ _ _ _ _ hr nd=>(zc (lu (XW.t (uj (wk (y0 (DK (k:=0) (by decide) T.bf T.bh ES xv))) (uj (yD (nu T.bg (za xv ze)) dh) (w6 (BU (nu T.bg (za xv ze)) (Bt T.bq)))))) (kc (wp (n:=0)))) (zc (mX nd Qk) (zc (xF (EN xv) (oI nd) (zc (lu (XW.t (uj (wk (y0 (xc T.z (Pt T) hr (za xv ze)))) (w6 (Uj (Me hr) xv xv (by with_unfolding_all rfl))))) (kc (wp (n:=0)))) (zj (Ss 1 rfl (Me hr) xv (wp (n:=0)))))) (zj (kc (wp (n:=0)))))))
noncomputable def dG:List D->Option D:=mOf ["number","least","most"]
  (sSeq (sIf (bOr (bNot (tb (e1 (pf "int") (eV 0)))) (tb (e1 (pf "bool") (eV 0)))) (sRet (eC (.bl false))) sSkip)
  (sRet (eB (bAnd (tb (e2 vA (eV 1) (eV 0))) (tb (e2 vA (eV 0) (eV 2)))))))
theorem xh (T:Txt K mg a w):dm P w K mg base fK 1 a.ap a.aq ["number","least","most"] (jB K a.ct [0,0,0] 0 dG) :=
 lf (ms:=[.ow 0,.ow 0,.ow 0]) T.ab.fn λ_ _ _ _ _ _ hr nd=>(zc (lu (XW.t (uj (wk (y0 (DK (k:=0) (by decide) T.bf T.be xj xv))) (w6 (y0 (DK (k:=0) (by decide) T.bf T.bc RF xv))))) (kc (wp (n:=0)))) (zj (kc (w8 (zV xv xv) (wy (k:=0) (zV xv xv))))))
noncomputable def k4:List D->Option D:=mOf ["arrow","many","least","most"]
  (sSeq (sSet 2 (eIf (tb (e1 (tM [0,1,2,3,4,5,6] [3]) (eV 0))) (eC (.int 1)) (eC (.int 0))))
  (sSeq (sSet 3 (eIf (tb (e1 (tM [0,1,2,3,4,5,6] [1]) (eV 0))) (eC (.int 0)) (eC (.int 4))))
  (sSeq (sIf (bOr (bNot (tb (λρ=>((aCons (e1 (dc [0,1,2,3] "start") (eV 0)) (aCons (eC (.int 0)) (aCons (e2 vM (eV 1) (eC (.int 1))) aNil))) ρ).bind λds=>dG (ds++[])))) (bNot (tb (λρ=>((aCons (e1 (dc [0,1,2,3] "goal") (eV 0)) (aCons (eC (.int 0)) (aCons (e2 vM (eV 1) (eC (.int 1))) aNil))) ρ).bind λds=>dG (ds++[]))))) (sRet (eC (.bl false))) sSkip)
  (sRet (eB (bAnd (tb (λρ=>((aCons (e1 (dc [0,1,2,3] "time") (eV 0)) (aCons (eC (.int 0)) (aCons (eC (.int 1000000000)) aNil))) ρ).bind λds=>dG (ds++[]))) (tb (λρ=>((aCons (e1 (dc [0,1,2,3] "behind") (eV 0)) (aCons (eV 2) (aCons (eV 3) aNil))) ρ).bind λds=>dG (ds++[])))))))))
theorem O5 (T:Txt K mg a w):dm P w K mg base fK 2 a.ar a.au ["arrow","many"] (jB K a.ct [0,0] 0 k4) :=
 lf (ms:=[.ow 0,.ow 0,.ow 0,.ow 0]) T.ac.fn λ_ _ _ _ _ _ hr nd=>(zc (oq nd (Fa (y0 (EU (k:=0) T.a8 T.bf T.e.mgx xv)) dh dh)) (zc (oq nd (Fa (y0 (EU (k:=0) T.a9 T.bf T.c.mgx xv)) dh (Bt T.bo))) (zc (lu (XW.t (uj (wk (y0 (xc T.ab (xh T) hr (za (lO xv T.a5) (za dh (za (Bg xv dh) ze)))))) (w6 (wk (y0 (xc T.ab (xh T) hr (za (lO xv T.a1) (za dh (za (Bg xv dh) ze))))))))) (kc (wp (n:=0)))) (zj (kc (w8 (xc T.ab (xh T) hr (za (lO xv T.a7) (za dh (za (Bt T.bt) ze)))) (wy (k:=0) (xc T.ab (xh T) hr (za (lO xv T.a0) (za xv (za xv ze)))))))))))
noncomputable def fD:SF:=(sIf (tb (e2 (fR false) (e1 (dc [0,1,2,3] "start") (eV 4)) (eV 7))) (sSeq (sg 3 (e1 (dc [0,1,2,3] "goal") (eV 4)) (λi j=>i-j) (eC (.int 1)))
  (sIf (tb (e2 (fR false) (e2 dY (eV 3) (e1 (dc [0,1,2,3] "goal") (eV 4))) (eC (.int 0)))) (sApp 5 (e1 (dc [0,1,2,3] "goal") (eV 4))) sSkip)) sSkip)
noncomputable def ir:SF:=(sSeq (sSet 7 (e2 dY (eV 5) (eV 6)))
  (sSeq (sFor (lsD (eV 2)) (gV 4) fD)
  (Bm 6 (i2 λi j=>.int (i+j)) (eC (.int 1)))))
noncomputable def kn:EF:=(gK (λρ=>((aCons (eV 0) aNil) ρ).bind pz) 1 [3] (gV 0) (tb (e2 (fR false) (e2 dY (eV 1) (eV 0)) (eC (.int 0)))) (eV 0))
noncomputable def iu:SF:=(sg 3 (e1 (dc [0,1,2,3] "goal") (eV 4)) (λi j=>i+j) (eC (.int 1)))
noncomputable def ko:EF:=(gK (lsD (eV 1)) 1 [] (gV 0) (tb (e2 (fR false) (e1 (dc [0,1,2,3] "behind") (eV 0)) (eC (.int 0)))) (eV 0))
noncomputable def gj:List D->Option D:=mOf ["many","arrows","within","waited","arrow","placed","done","here"]
  (sSeq (sSet 2 ko)
  (sSeq (sSet 3 (e2 xH (λρ=>((aCons (eC (.int 0)) aNil) ρ).bind λds=>some (.lst ds)) (eV 0)))
  (sSeq (sFor (lsD (eV 2)) (gV 4) iu)
  (sSeq (sSet 5 kn)
  (sSeq (sSet 6 (eC (.int 0)))
  (sSeq (rl (tb (e2 rK (eV 6) (eN eO (aCons (eV 5) aNil)))) ir)
  (sRet (eV 5))))))))
theorem jo (T:Txt K mg a w):dm P w K mg base fK 1 a.av a.aw ["many","arrows"] (jB K a.ct [0,0] 0 gj) :=
 lf (ms:=[.ow 0,.ow 0,.ow 0,.ow 1,.ow 0,.ow 1,.ow 0,.ow 0]) T.ad.fn λ_ _ _ _ _ _ hr nd=>(zc (DC (k:=0) (N:=["arrow"]) (om:=[.ow 0]) (cap:=[]) (own:=1) nd (wu (n:=0) xv) (λ_ _ _ _ _ h=>(rN h)) (λ_ _ _ _ _=>(EK (oV hr (lO xv T.a0) dh))) (λ_ _ _ _ _=>(XE.ow xv))) (zc (mX nd (Ud (yb (k:=0) (zh (XE.ow dh) zn)) xv)) (zc (xF (EN xv) (oI nd) (zj (Li 3 LF rfl (lO xv T.a1) dh))) (zc (DC (k:=1) (N:=["going","waited"]) (om:=[.ow 0]) (cap:=[3]) (own:=1) nd (XI.cc (wm (n:=0) T.bk (za xv ze))) (λ_ _ _ _ _ h=>(rN h)) (λ_ _ _ _ _=>(EK (oV hr (Eg xv xv) dh))) (λ_ _ _ _ _=>(XE.ow xv))) (zc (oq nd dh) (zc (Ov (yD xv (nu T.bg (za xv ze))) (zc (oq nd (Eg xv xv)) (zc (xF (EN xv) (oI nd) (zj (By (oV hr (lO xv T.a5) xv) (zc (Li 3 SH rfl (lO xv T.a1) dh) (zj (lu (oV hr (Eg xv (lO xv T.a1)) dh) (ul 5 rfl (XE.ow (lO xv T.a1)))))) wq))) (zj (Ue LF rfl nd rfl (Or.inl rfl) dh))))) (zj (Lk (i:=5) rfl))))))))
noncomputable def jP:SF:=(sIf (bNot (tb (λρ=>((aCons (eV 4) (aCons (eN eO (aCons (eV 1) aNil)) aNil)) ρ).bind λds=>k4 (ds++[])))) sNever sSkip)
noncomputable def ez:Nat->List D->Option D:=zD ["self","names","arrows","number","arrow","placed"]
  (sSeq (sIf (bOr (bNot (tb (λρ=>((aCons (eV 1) aNil) ρ).bind λds=>fE (ds++[])))) (tb (e2 xU (eN eO (aCons (eV 2) aNil)) (eC (.int 120))))) sNever sSkip)
  (sSeq (sFor (λρ=>((aCons (eV 2) aNil) ρ).bind λds=>match ds with|[.lst xs]=>some (lS 0 xs)|_=>none) (gT (gsCons (gV 3) (gsCons (gV 4) gsNil))) jP)
  (sSeq (sSet 5 (λρ=>((aCons (eN eO (aCons (eV 1) aNil)) (aCons (eV 2) aNil)) ρ).bind λds=>gj (ds++[])))
  (sSeq (sIf (tb (e2 rK (eN eO (aCons (eV 5) aNil)) (eN eO (aCons (eV 1) aNil)))) sNever sSkip)
  (sSeq (kM [4] "names" (eN n9 (aCons (eV 1) aNil)))
  (kM [4] "arrows" (eN n9 (aCons (eV 2) aNil))))))))
theorem uv (T:Txt K mg a w):dm P w K mg base fK 4 a.ax a.ay ["self","names","arrows"] (tq K a.ct [4] [0,0] ez) :=
 BQ (ms:=[.ow 0,.ow 0,.ow 0,.ow 0,.ow 0]) (rk:=0) T.ae.fn λ_ _ _ _ _ _ _ hr nd=>(zc (lu (XW.t (uj (wk (y0 (xc T.aa (OI T) hr (za xv ze)))) (w6 (BU (nu T.bg (za xv ze)) (Bt T.bn))))) vk) (zc (xF (Sa T.bd (za xv ze)) (DJ (n:=1) rfl (ye (oI nd) (ye (oI nd) qf))) (zj (lu (wk (y0 (xc T.ac (O5 T) hr (za xv (za (nu T.bg (za xv ze)) ze))))) vk))) (zc (mX nd (l5 T.ad (jo T) hr (za (nu T.bg (za xv ze)) (za xv ze)))) (zc (lu (yD (nu T.bg (za xv ze)) (nu T.bg (za xv ze))) vk) (zc (vw T.a2 (e7 (qd wz (Hj (n:=0) (by decide)) rfl T.bh ES (za xv ze)))) (zj (vw T.aZ (e7 (qd wz (Hj (n:=0) (by decide)) rfl T.bh ES (za xv ze))))))))))
noncomputable def gX:EF:=(gK (λρ=>((eV 0) ρ).bind Ft) 1 [] (gV 0) kE (λρ=>((aCons (eV 0) aNil) ρ).bind λds=>iV (ds++[])))
noncomputable def fV:List D->Option D:=mOf ["word"]
  (sSeq (sIf (bOr (tb (e2 rK (eN eO (aCons (eV 0) aNil)) (eC (.int 1)))) (bOr (tb (e2 xU (eN eO (aCons (eV 0) aNil)) (eC (.int 15)))) (bNot (tb (eN kW (aCons gX aNil)))))) (sRet (eC (.bl false))) sSkip)
  (sRet (eB (bOr (tb (e2 (fR false) (eV 0) (eC (.str "0")))) (tb (e2 (fR true) (e2 dY (eV 0) (eC (.int 0))) (eC (.str "0"))))))))
theorem vd (T:Txt K mg a w):dm P w K mg base fK 2 a.az a.aA ["word"] (jB K a.ct [0] 0 fV) :=
 lf (ms:=[.ow 0]) T.af.fn λ_ _ _ _ _ _ hr nd=>(zc (lu (XW.t (uj (yD (nu T.bg (za xv ze)) dh) (uj (BU (nu T.bg (za xv ze)) (Bt T.bp)) (w6 (wk (y0 (yx (k:=0) (ut rfl) ET rfl T.bb E3 (za (e7 (zW (N:=["sign"]) (om:=[.ow 0]) (cap:=[]) (own:=1) (XI.cc (LX (n:=0) xv)) (λ_ _ _ _ _ h=>(rN h)) (λ_ _ _ _ _=>x6) (λ_ _ _ _ _=>(l5 T.y (jl T) hr (za xv ze))))) ze)))))))) (kc (wp (n:=0)))) (zj (kc (Ig (vEq hr xv (zl (n:=0))) (wy (k:=0) (Oq hr (iB xv dh) (zl (n:=0))))))))
noncomputable def g0:EF:=(gK (lsD (eV 0)) 1 [] (gV 0) kE (λρ=>((aCons (eV 0) aNil) ρ).bind λds=>fV (ds++[])))
noncomputable def gr:List D->Option D:=mOf ["words"]
  (sRet (eN kW (aCons g0 aNil)))
theorem we (T:Txt K mg a w):dm P w K mg base fK 3 a.aB a.aC ["words"] (jB K a.ct [0] 0 gr) :=
 lf (ms:=[.ow 0]) T.ag.fn λ_ _ _ _ _ _ hr nd=>(zj (kc (yx (k:=0) (ut rfl) ET rfl T.bb E3 (za (e7 (zW (N:=["word"]) (om:=[.ow 0]) (cap:=[]) (own:=1) (wu (n:=0) xv) (λ_ _ _ _ _ h=>(rN h)) (λ_ _ _ _ _=>x6) (λ_ _ _ _ _=>(l5 T.af (vd T) hr (za xv ze))))) ze))))
noncomputable def ef:List D->Option D:=mOf ["words"]
  (sSeq (sIf (tb (e2 (fR false) (e2 dY (eV 0) (eC (.int 0))) (eC (.str "ride")))) (sRet (eB (bAnd (tb (e2 (fR false) (eN eO (aCons (eV 0) aNil)) (eC (.int 4)))) (tb (λρ=>((aCons (e2 dY (eV 0) (eC (.int 3))) aNil) ρ).bind λds=>fV (ds++[])))))) sSkip)
  (sSeq (sIf (bOr (tb (e2 (fR false) (e2 dY (eV 0) (eC (.int 0))) (eC (.str "wait")))) (tb (e2 (fR false) (e2 dY (eV 0) (eC (.int 0))) (eC (.str "back"))))) (sRet (eB (bAnd (tb (e2 (fR false) (eN eO (aCons (eV 0) aNil)) (eC (.int 5)))) (tb (λρ=>((aCons (λρ=>((eV 0) ρ).bind λd=>((pInt (eC (.int 3))) ρ).bind λl=>(pNo ρ).bind λh=>dP d l h) aNil) ρ).bind λds=>gr (ds++[])))))) sSkip)
  (sSeq (sIf (tb (e2 (fR false) (e2 dY (eV 0) (eC (.int 0))) (eC (.str "line")))) (sRet (eB (bAnd (tb (e2 BH (eN eO (aCons (eV 0) aNil)) (eC (.int 4)))) (bAnd (tb (e2 (fR false) (e2 eU (eN eO (aCons (eV 0) aNil)) (eC (.int 2))) (eC (.int 0)))) (tb (λρ=>((aCons (e2 cP (λρ=>((aCons (e2 dY (eV 0) (eC (.int 1))) aNil) ρ).bind λds=>some (.lst ds)) (λρ=>((lsD (eV 0)) ρ).bind λds=>some (.lst (every2 (ds.drop 3))))) aNil) ρ).bind λds=>gr (ds++[]))))))) sSkip)
  (sRet (eC (.bl false))))))
theorem u8 (T:Txt K mg a w):dm P w K mg base fK 4 a.aD a.aE ["words"] (jB K a.ct [0] 0 ef) :=
 lf (ms:=[.ow 0]) T.ah.fn λ_ _ _ _ _ _ hr nd=>(zc (lu (oV hr (iB xv dh) (zl (n:=0))) (kc (w8 (vEq hr (nu T.bg (za xv ze)) dh) (wy (k:=0) (xc T.af (vd T) hr (za (iB xv dh) ze)))))) (zc (lu (XW.t (uj (oV hr (iB xv dh) (zl (n:=0))) (w6 (oV hr (iB xv dh) (zl (n:=0)))))) (kc (w8 (vEq hr (nu T.bg (za xv ze)) dh) (wy (k:=0) (xc T.ag (we T) hr (za (e7 (yg (n:=0) (by decide) xv (yj dh) v7)) ze)))))) (zc (lu (oV hr (iB xv dh) (zl (n:=0))) (kc (w8 (Om (nu T.bg (za xv ze)) dh) (w8 (vEq hr (oMod (nu T.bg (za xv ze)) dh) dh) (wy (k:=0) (xc T.ag (we T) hr (za (e7 (iA (e7 (yb (k:=0) (zh (XE.ow (iB xv dh)) zn))) (e7 (EW (n:=0) (i:=3) (by decide) xv dh dh)))) ze))))))) (zj (kc (wp (n:=0)))))))
noncomputable def eZ:List D->Option D:=mOf ["words"]
  (sRet (eIf (tb (e2 (fR false) (e2 dY (eV 0) (eC (.int 0))) (eC (.str "line")))) (λρ=>((lsD (eV 0)) ρ).bind λds=>some (.lst (every2 (ds.drop 2)))) (λρ=>((eV 0) ρ).bind λd=>((pInt (eC (.int 1))) ρ).bind λl=>((pInt (eC (.int 3))) ρ).bind λh=>dP d l h)))
theorem qo (T:Txt K mg a w):dm P w K mg base fK 1 a.aF a.aG ["words"] (jB K a.ct [0] 0 eZ) :=
 lf (ms:=[.ow 0]) T.ai.fn λ_ _ _ _ _ _ hr nd=>(zj (kc (Fa (oV hr (iB xv dh) (zl (n:=0))) (e7 (EW (n:=0) (i:=2) (by decide) xv dh dh)) (e7 (yg (n:=0) (by decide) xv (yj dh) (yj dh))))))
noncomputable def fY:SF:=(sIf (tb (e2 (inD true) (eV 2) (eV 1))) sNever sSkip)
noncomputable def eT:List D->Option D:=mOf ["told","names","name"]
  (sFor (lsD (eV 0)) (gV 2) fY)
theorem u9 (T:Txt K mg a w):dm P w K mg base fK 1 a.aH a.aI ["told","names"] (jB K a.ct [0,0] 0 eT) :=
 lf (ms:=[.ow 0,.ow 0,.ow 0]) T.aj.fn λ_ _ _ _ _ _ hr nd=>(zj (xF (EN xv) (oI nd) (zj (lu (ji (k:=0) jf HP xv xv (by with_unfolding_all rfl)) vk))))
noncomputable def eE:List D->Option D:=mOf ["words","names","start","goal"]
  (sSeq (sSet 2 (e2 uZ (eV 1) (e2 dY (eV 0) (eC (.int 1)))))
  (sSeq (sSet 3 (e2 uZ (eV 1) (e2 dY (eV 0) (eC (.int 2)))))
  (sSeq (sIf (tb (e2 (fR false) (e2 dY (eV 0) (eC (.int 0))) (eC (.str "ride")))) (sRet (λρ=>((aCons (eV 2) (aCons (eV 3) (aCons (eN kK (aCons (e2 dY (eV 0) (eC (.int 3))) aNil)) aNil))) ρ).bind λds=>gq 1 (ds++[]))) sSkip)
  (sSeq (sIf (tb (e2 (fR false) (e2 dY (eV 0) (eC (.int 0))) (eC (.str "wait")))) (sRet (λρ=>((aCons (eV 2) (aCons (eV 3) (aCons (eN kK (aCons (e2 dY (eV 0) (eC (.int 3))) aNil)) (aCons (eN kK (aCons (e2 dY (eV 0) (eC (.int 4))) aNil)) aNil)))) ρ).bind λds=>gU 2 (ds++[]))) sSkip)
  (sRet (λρ=>((aCons (eV 2) (aCons (eV 3) (aCons (eN kK (aCons (e2 dY (eV 0) (eC (.int 3))) aNil)) (aCons (eN kK (aCons (e2 dY (eV 0) (eC (.int 4))) aNil)) aNil)))) ρ).bind λds=>fI 3 (ds++[])))))))
theorem qp (T:Txt K mg a w):dm P w K mg base fK 4 a.aJ a.aK ["words","names"] (jB K a.ct [0,0] 0 eE) :=
 lf (ms:=[.ow 0,.ow 0,.ow 0,.ow 0]) T.ak.fn λ_ _ _ _ _ _ hr nd=>(zc (oq nd (Hr (k:=0) xv (iB xv dh))) (zc (oq nd (Hr (k:=0) xv (iB xv dh))) (zc (lu (oV hr (iB xv dh) (zl (n:=0))) (ym (kG (yE T.c T.j (wc T) hr (za xv (za xv (za (zo (k:=0) yc yn rfl T.be xj (za (iB xv dh) ze)) ze))))))) (zc (lu (oV hr (iB xv dh) (zl (n:=0))) (ym (kG (yE T.d T.k (vx T) hr (za xv (za xv (za (zo (k:=0) yc yn rfl T.be xj (za (iB xv dh) ze)) (za (zo (k:=0) yc yn rfl T.be xj (za (iB xv dh) ze)) ze)))))))) (zj (ym (kG (yE T.e T.m (wd T) hr (za xv (za xv (za (zo (k:=0) yc yn rfl T.be xj (za (iB xv dh) ze)) (za (zo (k:=0) yc yn rfl T.be xj (za (iB xv dh) ze)) ze))))))))))))
noncomputable def hU:EF:=(gK (λρ=>((aCons (eV 2) (aCons (λρ=>((eV 2) ρ).bind λd=>((pInt (eC (.int 1))) ρ).bind λl=>(pNo ρ).bind λh=>dP d l h) (aCons (eV 3) aNil))) ρ).bind xM) 3 [] (gT (gsCons (gV 0) (gsCons (gV 1) (gsCons (gV 2) gsNil)))) kE (λρ=>((aCons (eV 0) (aCons (eV 1) (aCons (eV 2) aNil))) ρ).bind λds=>gq 1 (ds++[])))
noncomputable def hV:EF:=(gK (lsD (λρ=>((lsD (eV 0)) ρ).bind λds=>some (.lst (every2 (ds.drop 3))))) 1 [] (gV 0) kE (eN kK (aCons (eV 0) aNil)))
noncomputable def hX:EF:=(gK (lsD (λρ=>((lsD (eV 0)) ρ).bind λds=>some (.lst (every2 (ds.drop 2))))) 1 [1] (gV 0) kE (e2 uZ (eV 1) (eV 0)))
noncomputable def gI:List D->Option D:=mOf ["words","names","goings","times","rides"]
  (sSeq (sSet 2 hX)
  (sSeq (sSet 3 hV)
  (sSeq (sSet 4 hU)
  (sRet (e2 cP (eV 4) (λρ=>((aCons (λρ=>((aCons (e2 dY (eV 2) (e1 zJ (eC (.int 1)))) (aCons (e2 dY (eV 2) (eC (.int 0))) (aCons (e2 dY (eV 3) (e1 zJ (eC (.int 1)))) (aCons (eN kK (aCons (e2 dY (eV 0) (eC (.int 1))) aNil)) aNil)))) ρ).bind λds=>fI 3 (ds++[])) aNil) ρ).bind λds=>some (.lst ds)))))))
theorem ja (T:Txt K mg a w):dm P w K mg base fK 4 a.aL a.aM ["words","names"] (jB K a.ct [0,0] 1 gI) :=
 lf (ms:=[.ow 0,.ow 0,.ow 0,.ow 0,.ow 0]) T.al.fn λ_ _ _ _ _ _ hr nd=>(zc (DC (k:=0) (N:=["name","names"]) (om:=[.ow 0]) (cap:=[1]) (own:=1) nd (wu (n:=0) (e7 (EW (n:=0) (i:=2) (by decide) xv dh dh))) (λ_ _ _ _ _ h=>(rN h)) (λ_ _ _ _ _=>x6) (λ_ _ _ _ _=>(XE.ow (Hr (k:=0) xv xv)))) (zc (DC (k:=0) (N:=["word"]) (om:=[.ow 0]) (cap:=[]) (own:=1) nd (wu (n:=0) (e7 (EW (n:=0) (i:=3) (by decide) xv dh dh))) (λ_ _ _ _ _ h=>(rN h)) (λ_ _ _ _ _=>x6) (λ_ _ _ _ _=>(XE.ow (zo (k:=0) yc yn rfl T.be xj (za xv ze))))) (zc (DC (k:=0) (N:=["start","goal","time"]) (om:=[.ow 0,.ow 0,.ow 0]) (cap:=[]) (own:=3) nd (QW (n:=0) T.bm (za xv (za (e7 (yg (n:=0) (by decide) xv (yj dh) v7)) (za xv ze)))) (λ_ _ _ _ _ h=>(HI (n:=1) rfl (xp (rN h) (xp (rN h) (xp (rN h) Hh))))) (λ_ _ _ _ _=>x6) (λ_ _ _ _ _=>(kG (yE T.c T.j (wc T) hr (za xv (za xv (za xv ze))))))) (zj (ym (iA xv (e7 (yb (k:=0) (zh (kG (yE T.e T.m (wd T) hr (za (iB xv (LR (k:=0) dh)) (za (iB xv dh) (za (iB xv (LR (k:=0) dh)) (za (zo (k:=0) yc yn rfl T.be xj (za (iB xv dh) ze)) ze)))))) zn)))))))))
noncomputable def eo:List D->Option D:=mOf ["words","names"]
  (sSeq (sIf (tb (e2 (fR false) (e2 dY (eV 0) (eC (.int 0))) (eC (.str "line")))) (sRet (λρ=>((aCons (eV 0) (aCons (eV 1) aNil)) ρ).bind λds=>gI (ds++[]))) sSkip)
  (sRet (λρ=>((aCons (λρ=>((aCons (eV 0) (aCons (eV 1) aNil)) ρ).bind λds=>eE (ds++[])) aNil) ρ).bind λds=>some (.lst ds))))
theorem jp (T:Txt K mg a w):dm P w K mg base fK 5 a.aN a.aO ["words","names"] (jB K a.ct [0,0] 1 eo) :=
 lf (ms:=[.ow 0,.ow 0]) T.am.fn λ_ _ _ _ _ _ hr nd=>(zc (lu (oV hr (iB xv dh) (zl (n:=0))) (ym (l5 T.al (ja T) hr (za xv (za xv ze))))) (zj (ym (yb (k:=0) (zh (l5 T.ak (qp T) hr (za xv (za xv ze))) zn)))))
noncomputable def nK:EF:=(gK (lsD (e1 (dc [4] "arrows") (eV 0))) 1 [0] (gV 0) kE (λρ=>((λρ=>((eV 0) ρ).bind λo=>((aCons (e1 (dc [4] "names") (eV 1)) aNil) ρ).bind λds=>gA 1 "row" jS o (ds++[])) ρ).or ((λρ=>((λρ=>((eV 0) ρ).bind λo=>((aCons (e1 (dc [4] "names") (eV 1)) aNil) ρ).bind λds=>gA 2 "row" jT o (ds++[])) ρ).or ((λρ=>((eV 0) ρ).bind λo=>((aCons (e1 (dc [4] "names") (eV 1)) aNil) ρ).bind λds=>gA 3 "row" jR o (ds++[])) ρ)) ρ)))
noncomputable def oU:List D->Option D:=mOf ["net"]
  (sRet (e2 iJ (eC (.str "\n")) (e2 cP (λρ=>((aCons (e2 iJ (eC (.str " ")) (e2 cP (λρ=>((aCons (eC (.str "goings")) aNil) ρ).bind λds=>some (.lst ds)) (e1 (dc [4] "names") (eV 0)))) aNil) ρ).bind λds=>some (.lst ds)) nK)))
theorem QZ (T:Txt K mg a w):dm P w K mg base fK 5 a.aP a.aQ ["net"] (jB K a.ct [0] 0 oU) :=
 lf (ms:=[.ow 0]) T.an.fn λ_ _ _ _ _ _ hr nd=>(zj (kc (wv (k:=0) (zl (n:=0)) (e7 (iA (e7 (yb (k:=0) (zh (XE.ow (wv (k:=0) (zl (n:=0)) (e7 (iA (e7 (yb (k:=0) (zh (XE.ow (zl (n:=0))) zn))) (lO xv T.a2))))) zn))) (e7 (zW (N:=["arrow","net"]) (om:=[.ow 0]) (cap:=[0]) (own:=1) (wu (n:=0) (lO xv T.aZ)) (λ_ _ _ _ _ h=>(rN h)) (λ_ _ _ _ _=>x6) (λ_ _ _ _ _=>(vt (yi (n:=0) (c0:=1) (ns:=[0]) (nd:=[]) (mh:=[]) xv T.c.cl T.t.me (O2 T) (hr.mono (by decide)) T.t.bd .nil (λ_ _=>.nil) (za (lO xv T.a2) ze)) (vt (yi (n:=0) (c0:=2) (ns:=[0]) (nd:=[]) (mh:=[]) xv T.d.cl T.u.me (O3 T) (hr.mono (by decide)) T.u.bd .nil (λ_ _=>.nil) (za (lO xv T.a2) ze)) (yi (n:=0) (c0:=3) (ns:=[0]) (nd:=[]) (mh:=[]) xv T.e.cl T.v.me (O4 T) (hr.mono (by decide)) T.v.bd .nil (λ_ _=>.nil) (za (lO xv T.a2) ze))))))))))))
noncomputable def f7:List D->Option D:=mOf ["word","slot"]
  (sSeq (sIf (tb (e2 (uI false) (eV 1) (eC .non))) (sRet (eC (.bl true))) sSkip)
  (sRet (eB (bAnd (tb (λρ=>((aCons (eV 0) aNil) ρ).bind λds=>fV (ds++[]))) (bAnd (tb (e2 vA (e2 dY (eV 1) (eC (.int 0))) (eN kK (aCons (eV 0) aNil)))) (tb (e2 vA (eN kK (aCons (eV 0) aNil)) (e2 dY (eV 1) (eC (.int 1))))))))))
theorem OD (T:Txt K mg a w):dm P w K mg base fK 3 a.aR a.aS ["word","slot"] (jB K a.ct [0,0] 0 f7) :=
 lf (ms:=[.ow 0,.ow 0]) T.ao.fn λ_ _ _ _ _ _ hr nd=>(zc (lu (Ey xv AL) (kc (wp (n:=0)))) (zj (kc (w8 (xc T.af (vd T) hr (za xv ze)) (w8 (zV (iB xv dh) (zo (k:=0) yc yn rfl T.be xj (za xv ze))) (wy (k:=0) (zV (zo (k:=0) yc yn rfl T.be xj (za xv ze)) (iB xv dh))))))))
noncomputable def jJ:EF:=(gK (λρ=>((aCons (λρ=>((eV 0) ρ).bind λd=>((pInt (eC (.int 1))) ρ).bind λl=>(pNo ρ).bind λh=>dP d l h) (aCons (eV 1) aNil)) ρ).bind zZ) 2 [] (gT (gsCons (gV 0) (gsCons (gV 1) gsNil))) kE (λρ=>((aCons (eV 0) (aCons (eV 1) aNil)) ρ).bind λds=>f7 (ds++[])))
noncomputable def jU:List D->Option D:=mOf ["words","form"]
  (sSeq (sSet 1 (e1 (BP eJ) (e2 dY (eV 0) (eC (.int 0)))))
  (sSeq (sIf (tb (e2 (fR true) (eN eO (aCons (eV 0) aNil)) (e2 cP (eN eO (aCons (eV 1) aNil)) (eC (.int 1))))) (sRet (eC (.bl false))) sSkip)
  (sRet (eN kW (aCons jJ aNil)))))
theorem O6 (T:Txt K mg a w):dm P w K mg base fK 4 a.aT a.aU ["words"] (jB K a.ct [0] 0 jU) :=
 lf (ms:=[.ow 0,.ow 0]) T.ap.fn λ_ _ _ _ _ _ hr nd=>(zc (oq nd (Mj (k:=0) T.aP (iB xv dh))) (zc (lu (BV hr (nu T.bg (za xv ze)) (e7 (iA (nu T.bg (za xv ze)) dh))) (kc (wp (n:=0)))) (zj (kc (yx (k:=0) (ut rfl) ET rfl T.bb E3 (za (e7 (zW (N:=["word","slot"]) (om:=[.ow 0,.ow 0]) (cap:=[]) (own:=2) (L4 T.bm (za (e7 (yg (n:=0) (by decide) xv (yj dh) v7)) (za xv ze))) (λ_ _ _ _ _ h=>(HI (n:=1) rfl (xp (rN h) (xp (rN h) Hh)))) (λ_ _ _ _ _=>x6) (λ_ _ _ _ _=>(l5 T.ao (OD T) hr (za xv (za xv ze)))))) ze))))))
noncomputable def nk:EF:=(gK (lsD (λρ=>((eV 0) ρ).bind λd=>((pInt (eC (.int 1))) ρ).bind λl=>(pNo ρ).bind λh=>dP d l h)) 1 [] (gV 0) kE (eN kK (aCons (eV 0) aNil)))
noncomputable def lm:List D->Option D:=mOf ["words","many"]
  (sSeq (sIf (bOr (tb (e2 (fR true) (eN eO (aCons (eV 0) aNil)) (e2 cP (eV 1) (eC (.int 2))))) (bNot (tb (λρ=>((aCons (λρ=>((eV 0) ρ).bind λd=>((pInt (eC (.int 1))) ρ).bind λl=>(pNo ρ).bind λh=>dP d l h) aNil) ρ).bind λds=>gr (ds++[]))))) (sRet (eC (.bl false))) sSkip)
  (sRet (e2 vA (eN CZ (aCons nk aNil)) (eC (.int 1000000000000)))))
theorem jq (T:Txt K mg a w):dm P w K mg base fK 4 a.aV a.aW ["words","many"] (jB K a.ct [0,0] 0 lm) :=
 lf (ms:=[.ow 0,.ow 0]) T.aq.fn λ_ _ _ _ _ _ hr nd=>(zc (lu (XW.t (uj (BV hr (nu T.bg (za xv ze)) (e7 (iA xv dh))) (w6 (wk (y0 (xc T.ag (we T) hr (za (e7 (yg (n:=0) (by decide) xv (yj dh) v7)) ze))))))) (kc (wp (n:=0)))) (zj (kc (zV (yx (k:=0) (P7 rfl) So rfl T.bi DI (za (e7 (zW (N:=["word"]) (om:=[.ow 0]) (cap:=[]) (own:=1) (wu (n:=0) (e7 (yg (n:=0) (by decide) xv (yj dh) v7))) (λ_ _ _ _ _ h=>(rN h)) (λ_ _ _ _ _=>x6) (λ_ _ _ _ _=>(XE.ow (zo (k:=0) yc yn rfl T.be xj (za xv ze)))))) ze)) (Bt T.br)))))
noncomputable def iy:List D->Option D:=mOf ["desk","words"]
  (sSeq (sIf (tb (e2 (fR false) (e2 dY (eV 1) (eC (.int 0))) (eC (.str "goings")))) (sRet (eC (.bl true))) sSkip)
  (sSeq (sIf (bOr (tb (e2 (uI false) (e1 (dc [5,6] "net") (eV 0)) (eC .non))) (bAnd (tb (e2 (inD false) (e2 dY (eV 1) (eC (.int 0))) (eC fQ))) (tb (e2 (uI false) (e1 (dc [6] "table") (eV 0)) (eC .non))))) (sRet (eC (.bl false))) sSkip)
  (sSeq (sIf (tb (e2 (fR false) (e2 dY (eV 1) (eC (.int 0))) (eC (.str "plan")))) (sRet (λρ=>((aCons (eV 1) (aCons (eN eO (aCons (e1 (dc [4] "names") (e1 (dc [5,6] "net") (eV 0))) aNil)) aNil)) ρ).bind λds=>lm (ds++[]))) sSkip)
  (sSeq (sIf (tb (e1 (pj true eJ) (e2 dY (eV 1) (eC (.int 0))))) (sRet (λρ=>((aCons (eV 1) aNil) ρ).bind λds=>ef (ds++[]))) sSkip)
  (sSeq (sIf (bNot (tb (λρ=>((aCons (eV 1) aNil) ρ).bind λds=>jU (ds++[])))) (sRet (eC (.bl false))) sSkip)
  (sRet (eB (bOr (tb (e2 (inD true) (e2 dY (eV 1) (eC (.int 0))) (eC dw))) (tb (e2 rK (eN kK (aCons (e2 dY (eV 1) (eC (.int 1))) aNil)) (eN eO (aCons (e1 (dc [4] "arrows") (e1 (dc [5,6] "net") (eV 0))) aNil))))))))))))
theorem Qc (T:Txt K mg a w):dm P w K mg base fK 5 a.aX a.aY ["desk","words"] (jB K a.ct [1,0] 0 iy) :=
 lf (ms:=[.al 1,.ow 0]) T.ar.fn λ_ _ _ _ _ _ hr nd=>(zc (lu (oV hr (iB xv dh) (zl (n:=0))) (kc (wp (n:=0)))) (zc (lu (XW.t (uj (Ey (vX xv T.a3) AL) (w6 (XW.t (E5 (ji (k:=0) PU HP (iB xv dh) (Mi (n:=0) T.aO) (by with_unfolding_all rfl)) (EJ (Ey (vX xv T.a6) AL))))))) (kc (wp (n:=0)))) (zc (lu (oV hr (iB xv dh) (zl (n:=0))) (ym (l5 T.aq (jq T) hr (za xv (za (nu T.bg (za (lO (vX xv T.a3) T.a2) ze)) ze))))) (zc (lu (Ps T.aP (iB xv dh)) (ym (l5 T.ah (u8 T) hr (za xv ze)))) (zc (lu (wk (y0 (xc T.ap (O6 T) hr (za xv ze)))) (kc (wp (n:=0)))) (zj (kc (Ig (qc (k:=0) jf HP (iB xv dh) (Mi (n:=0) T.aN) (by with_unfolding_all rfl)) (wy (k:=0) (Oo (zo (k:=0) yc yn rfl T.be xj (za (iB xv dh) ze)) (nu T.bg (za (lO (vX xv T.a3) T.aZ) ze))))))))))))
noncomputable def jV:EF:=(gK (λρ=>((aCons (λρ=>((eV 0) ρ).bind λd=>((pInt (eC (.int 1))) ρ).bind λl=>(pNo ρ).bind λh=>dP d l h) (aCons (e1 (BP eJ) (e2 dY (eV 0) (eC (.int 0)))) aNil)) ρ).bind zZ) 2 [] (gT (gsCons (gV 0) (gsCons (gV 1) gsNil))) (tb (e2 (uI false) (eV 1) (eC .non))) (eV 0))
noncomputable def fG:List D->Option D:=mOf ["words"]
  (sSeq (sIf (tb (e1 (pj false eJ) (e2 dY (eV 0) (eC (.int 0))))) (sRet jV) sSkip)
  (sRet (eIf (tb (e2 (fR false) (e2 dY (eV 0) (eC (.int 0))) (eC (.str "plan")))) (λρ=>(aNil ρ).bind λds=>some (.lst ds)) (λρ=>((aCons (eV 0) aNil) ρ).bind λds=>eZ (ds++[])))))
theorem OE (T:Txt K mg a w):dm P w K mg base fK 2 a.aZ a.a0 ["words"] (jB K a.ct [0] 0 fG) :=
 lf (ms:=[.ow 0]) T.au.fn λ_ _ _ _ _ _ hr nd=>(zc (lu (Sw T.aP (iB xv dh)) (ym (kG (zW (N:=["word","slot"]) (om:=[.ow 0,.ow 0]) (cap:=[]) (own:=2) (L4 T.bm (za (e7 (yg (n:=0) (by decide) xv (yj dh) v7)) (za (Mj (k:=0) T.aP (iB xv dh)) ze))) (λ_ _ _ _ _ h=>(HI (n:=1) rfl (xp (rN h) (xp (rN h) Hh)))) (λ_ _ _ _ _=>(EK (Ey xv AL))) (λ_ _ _ _ _=>(XE.ow xv)))))) (zj (kc (Fa (oV hr (iB xv dh) (zl (n:=0))) (e7 (yb (k:=0) zn)) (xc T.ai (qo T) hr (za xv ze))))))
noncomputable def gW:List D->Option D:=mOf1 0 ["desk","words"]
  (mSeq (iY 0 [5,6] "net" (λρ=>((aCons (λρ=>((eV 1) ρ).bind λd=>((pInt (eC (.int 1))) ρ).bind λl=>(pNo ρ).bind λh=>dP d l h) (aCons (λρ=>(aNil ρ).bind λds=>some (.lst ds)) aNil)) ρ).bind λds=>ez 4 (ds++[])))
  (mSeq (iY 0 [6] "table" (eC .non))
  (mSeq (iY 0 [6] "puts" (λρ=>(aNil ρ).bind λds=>some (.lst ds)))
  (mRet (eC (.str "ok"))))))
theorem OA (T:Txt K mg a w):dm P w K mg base fK 6 a.a1 a.a2 ["desk","words"] (qS K a.ct 0 1 gW):=by
 refine xt (n:=0) (m:=1) (ms:=[]) T.av.fn qz rfl rfl λxa iF A outer s H E hr=>?_
 exact(yr (ql (i:=0) (pX rfl) T.a3 (e7 (yE T.f T.ae (uv T) hr (za (e7 (yg (n:=0) (by decide) xv (yj dh) v7)) (za (e7 (yb (k:=0) zn)) ze))))) (yr (ql (i:=0) (pX rfl) T.a6 AL) (yr (ql (i:=0) (pX rfl) T.a4 (e7 (yb (k:=0) zn))) (E8 (zl (n:=0))))))
noncomputable def d7:List D->Option D:=mOf1 0 ["desk","arrows"]
  (mSeq (iY 0 [5,6] "net" (λρ=>((aCons (e1 (dc [4] "names") (e1 (dc [5,6] "net") (eV 0))) (aCons (eV 1) aNil)) ρ).bind λds=>ez 4 (ds++[])))
  (mSeq (iY 0 [6] "table" (eC .non))
  (mRet (eC (.str "ok")))))
theorem wf (T:Txt K mg a w):dm P w K mg base fK 6 a.a3 a.a4 ["desk","arrows"] (qS K a.ct 0 1 d7):=by
 refine xt (n:=0) (m:=1) (ms:=[]) T.aw.fn Oy rfl rfl λxa iF A outer s H E hr=>?_
 exact(yr (ql (i:=0) (pX rfl) T.a3 (e7 (yE T.f T.ae (uv T) hr (za (lO (vX xv T.a3) T.a2) (za xv ze))))) (yr (ql (i:=0) (pX rfl) T.a6 AL) (E8 (zl (n:=0)))))
noncomputable def eA:List D->Option D:=mOf1 0 ["desk","words"]
  (mE 0 (aCons (e2 cP (e1 (dc [4] "arrows") (e1 (dc [5,6] "net") (eV 0))) (λρ=>((aCons (eV 1) (aCons (e1 (dc [4] "names") (e1 (dc [5,6] "net") (eV 0))) aNil)) ρ).bind λds=>eo (ds++[]))) aNil) d7)
theorem xi (T:Txt K mg a w):dm P w K mg base fK 7 a.a5 a.a6 ["desk","words"] (qS K a.ct 0 1 eA):=by
 refine xt (n:=0) (m:=1) (ms:=[]) T.ax.fn Oz rfl rfl λxa iF A outer s H E hr=>?_
 exact(HK (Ht (i:=0) (pX rfl) T.aw (wf T) hr (xr vb) (yy (e7 (iA (lO (vX xv T.a3) T.aZ) (xc T.am (jp T) hr (za xv (za (lO (vX xv T.a3) T.a2) ze))))) xu)))
noncomputable def k7:List D->Option D:=mOf1 0 ["desk","words","number"]
  (mSeq (sSet 2 (eN kK (aCons (e2 dY (eV 1) (eC (.int 1))) aNil)))
  (mE 0 (aCons (e2 cP (λρ=>((e1 (dc [4] "arrows") (e1 (dc [5,6] "net") (eV 0))) ρ).bind λd=>(pNo ρ).bind λl=>((pInt (eV 2)) ρ).bind λh=>dP d l h) (λρ=>((e1 (dc [4] "arrows") (e1 (dc [5,6] "net") (eV 0))) ρ).bind λd=>((pInt (e2 cP (eV 2) (eC (.int 1)))) ρ).bind λl=>(pNo ρ).bind λh=>dP d l h)) aNil) d7))
theorem OT (T:Txt K mg a w):dm P w K mg base fK 7 a.a7 a.a8 ["desk","words"] (qS K a.ct 0 1 k7):=by
 refine xt (n:=0) (m:=1) (ms:=[.ow 0]) T.ay.fn qm rfl rfl λxa iF A outer s H E hr=>?_
 exact(yr (oq qm.nd (zo (k:=0) yc yn rfl T.be xj (za (iB xv dh) ze))) (HK (Ht (i:=0) (pX rfl) T.aw (wf T) hr (xr vb) (yy (e7 (iA (e7 (yg (n:=0) (by decide) (lO (vX xv T.a3) T.aZ) v7 (yj xv))) (e7 (yg (n:=0) (by decide) (lO (vX xv T.a3) T.aZ) (yj (e7 (iA xv dh))) v7)))) xu))))
noncomputable def fW:List D->Option D:=mOf ["arrow","time"]
  (sSeq (sIf (tb (e1 (tM [0,1,2,3,4,5,6] [1]) (eV 0))) (sRet (λρ=>((aCons (e1 (dc [0,1,2,3] "start") (eV 0)) (aCons (e1 (dc [0,1,2,3] "goal") (eV 0)) (aCons (eV 1) aNil))) ρ).bind λds=>gq 1 (ds++[]))) sSkip)
  (sSeq (sIf (tb (e1 (tM [0,1,2,3,4,5,6] [2]) (eV 0))) (sRet (λρ=>((aCons (e1 (dc [0,1,2,3] "start") (eV 0)) (aCons (e1 (dc [0,1,2,3] "goal") (eV 0)) (aCons (eV 1) (aCons (e1 (dc [0,1,2,3] "behind") (eV 0)) aNil)))) ρ).bind λds=>gU 2 (ds++[]))) sSkip)
  (sRet (λρ=>((aCons (e1 (dc [0,1,2,3] "start") (eV 0)) (aCons (e1 (dc [0,1,2,3] "goal") (eV 0)) (aCons (eV 1) (aCons (e1 (dc [0,1,2,3] "behind") (eV 0)) aNil)))) ρ).bind λds=>fI 3 (ds++[])))))
theorem OJ (T:Txt K mg a w):dm P w K mg base fK 4 a.a9 a.ba ["arrow","time"] (jB K a.ct [0,0] 0 fW) :=
 lf (ms:=[.ow 0,.ow 0]) T.az.fn λ_ _ _ _ _ _ hr nd=>(zc (lu (y0 (EU (k:=0) T.a9 T.bf T.c.mgx xv)) (ym (kG (yE T.c T.j (wc T) hr (za (lO xv T.a5) (za (lO xv T.a1) (za xv ze))))))) (zc (lu (y0 (EU (k:=0) T.ba T.bf T.d.mgx xv)) (ym (kG (yE T.d T.k (vx T) hr (za (lO xv T.a5) (za (lO xv T.a1) (za xv (za (lO xv T.a0) ze)))))))) (zj (ym (kG (yE T.e T.m (wd T) hr (za (lO xv T.a5) (za (lO xv T.a1) (za xv (za (lO xv T.a0) ze))))))))))
noncomputable def iQ:List D->Option D:=mOf1 0 ["desk","words","arrows","number"]
  (mSeq (sSet 2 (eN n9 (aCons (e1 (dc [4] "arrows") (e1 (dc [5,6] "net") (eV 0))) aNil)))
  (mSeq (sSet 3 (eN kK (aCons (e2 dY (eV 1) (eC (.int 1))) aNil)))
  (mSeq (si 2 (eV 3) (λρ=>((aCons (e2 dY (eV 2) (eV 3)) (aCons (eN kK (aCons (e2 dY (eV 1) (eC (.int 2))) aNil)) aNil)) ρ).bind λds=>fW (ds++[])))
  (GB 2 (mE 0 (aCons (eV 2) aNil) d7)))))
theorem OB (T:Txt K mg a w):dm P w K mg base fK 7 a.bb a.bc ["desk","words"] (qS K a.ct 0 1 iQ):=by
 refine xt (n:=0) (m:=1) (ms:=[.ow 1,.ow 0]) T.aA.fn x9 rfl rfl λxa iF A outer s H E hr=>?_
 exact(yr (mX x9.nd (qd wz (Hj (n:=0) (by decide)) rfl T.bh ES (za (lO (vX xv T.a3) T.aZ) ze))) (yr (oq x9.nd (zo (k:=0) yc yn rfl T.be xj (za (iB xv dh) ze))) (yr (Sb 2 rfl xv (xc T.az (OJ T) hr (za (Eg xv xv) (za (zo (k:=0) yc yn rfl T.be xj (za (iB xv dh) ze)) ze)))) (UV (i:=2) rfl (HK (Ht (i:=0) (pX rfl) T.aw (wf T) hr (xr vb) (yy xv xu)))))))
noncomputable def kZ:List D->Option D:=mOf1 0 ["desk","words"]
  (mRet (λρ=>((aCons (e1 (dc [5,6] "net") (eV 0)) aNil) ρ).bind λds=>oU (ds++[])))
theorem OU (T:Txt K mg a w):dm P w K mg base fK 6 a.bd a.be ["desk","words"] (qS K a.ct 0 1 kZ):=by
 refine xt (n:=0) (m:=1) (ms:=[]) T.aB.fn O1 rfl rfl λxa iF A outer s H E hr=>?_
 exact(E8 (xc T.an (QZ T) hr (za (vX xv T.a3) ze)))
noncomputable def gS:Nat->List D->Option D:=zD ["self"]
  (sSeq (kM [5,6] "net" (eC .non))
  (sSeq (kM [6] "table" (eC .non))
  (sSeq (kM [6] "puts" (λρ=>(aNil ρ).bind λds=>some (.lst ds)))
  (kM [6] "answered" (eC (.int 0))))))
theorem vz (T:Txt K mg a w):dm P w K mg base fK 1 a.bf a.bg ["self"] (tq K a.ct [6] [] gS) :=
 BQ (ms:=[]) (rk:=0) T.aC.fn λ_ _ _ _ _ _ _ hr nd=>(zc (vw T.a3 AL) (zc (vw T.a6 AL) (zc (vw T.a4 (e7 (yb (k:=0) zn))) (zj (vw T.aY dh)))))
noncomputable def gb:List (Str×(List D->Option D)):=[("goings",gW),("ride",eA),("wait",eA),("back",eA),("line",eA),("cut",k7),("change",iQ),("show",kZ)]
noncomputable def cJ:List D->Option D:=mOf1 0 ["self","row","words","answer"]
  (mSeq (sIf (bNot (tb (e1 (pf "str") (eV 1)))) sNever sSkip)
  (mSeq (sSet 2 (e2 rA (eV 1) (eC (.str " "))))
  (mSeq (sIf (bNot (tb (λρ=>((aCons (eV 0) (aCons (eV 2) aNil)) ρ).bind λds=>iy (ds++[])))) sNever sSkip)
  (mSeq (sIf (tb (e2 (fR true) (e2 dY (eV 2) (eC (.int 0))) (eC (.str "goings")))) (sDrop (λρ=>((aCons (λρ=>((aCons (eV 2) aNil) ρ).bind λds=>fG (ds++[])) (aCons (e1 (dc [4] "names") (e1 (dc [5,6] "net") (eV 0))) aNil)) ρ).bind λds=>eT (ds++[]))) sSkip)
  (mSeq (sSetM 3 (nI 0 (e2 dY (eV 2) (eC (.int 0))) (aCons (eV 2) aNil) gb))
  (mSeq (uK 0 [6] "answered" (eC (.int 1)))
  (mRet (eV 3))))))))
theorem yt (T:Txt K mg a w):dm P w K mg base fK 8 a.bh a.bi ["self","row"] (qS K a.ct 0 1 cJ):=by
 refine xt (n:=0) (m:=1) (ms:=[.ow 0,.ow 0]) T.aD.fn uc rfl rfl λxa iF A outer s H E hr=>?_
 exact(yr (lu (wk (y0 (DK (k:=0) (by decide) T.bf T.bl wx xv))) vk) (yr (mX uc.nd (kG (QX xv (zl (n:=0))))) (yr (lu (wk (y0 (xc T.ar (Qc T) hr (za xv (za xv ze))))) vk) (yr (lu (BV hr (iB xv dh) (zl (n:=0))) (Rn (xc T.aj (u9 T) hr (za (xc T.au (OE T) hr (za xv ze)) (za (lO (vX xv T.a3) T.a2) ze))))) (yr (Su rfl uc.nd rfl (Or.inl rfl) (T.aQ.elim λ_ h=>h.elim λ_ h=>RQ (i:=0) (tb:=gb) (pX rfl) h.1 (vc h.2.1 T.av (OA T) hr (vc h.2.2.1 T.ax (xi T) hr (vc h.2.2.2.1 T.ax (xi T) hr (vc h.2.2.2.2.1 T.ax (xi T) hr (vc h.2.2.2.2.2.1 T.ax (xi T) hr (vc h.2.2.2.2.2.2.1 T.ay (OT T) hr (vc h.2.2.2.2.2.2.2.1 T.aA (OB T) hr (vc h.2.2.2.2.2.2.2.2.1 T.aB (OU T) hr Uo)))))))) (iB xv dh) (xr vb) (yy xv xu))) (yr (RP (i:=0) (pX rfl) T.aY dh) (E8 xv)))))))
noncomputable def gu:List D->Option D:=mOf ["_law_script","_law_k"]
  (sSeq (sIf (tb (e2 rK (eV 1) (eN eO (aCons (eV 0) aNil)))) (sRet (e2 dY (eV 0) (eV 1))) sSkip)
  (sRet (eC (.int 0))))
theorem v4 (T:Txt K mg a w):dm P w K mg base fK 1 a.bj a.bk ["_law_script","_law_k"] (jB K a.ct [0,0] 0 gu) :=
 lf (ms:=[.ow 0,.ow 0]) T.aE.fn λ_ _ _ _ _ _ hr nd=>(zc (lu (yD xv (nu T.bg (za xv ze))) (kc (iB xv xv))) (zj (kc dh)))
noncomputable def et:List D->Option D:=mOf ["_law_cell","_law_k","_law_number"]
  (sSeq (sIf (bAnd (tb (e2 BH (eV 0) (e2 zQ (eC (.int 1)) (eC (.int 90))))) (tb (e2 xU (e2 vK (eV 0) (e2 cP (eC (.int 64)) (e2 ig (eC (.int 31)) (eV 1)))) (eC (.int 0))))) (sRet (e2 eU (e2 vK (eV 0) (e2 cP (eC (.int 64)) (e2 ig (eC (.int 31)) (eV 1)))) (eC (.int 2147483648)))) sSkip)
  (sSeq (sSet 2 (e2 eU (e2 ig (e2 cP (e2 cP (eV 0) (e2 ig (eC (.int 7919)) (eV 1))) (eC (.int 1))) (eC (.int 48271))) (eC (.int 2147483647))))
  (sSeq (sSet 2 (e2 eU (e2 ig (eV 2) (e2 cP (e2 iw (eV 2) (eC (.int 1009))) (eC (.int 69621)))) (eC (.int 2147483647))))
  (sRet (e2 eU (e2 ig (eV 2) (e2 cP (e2 iw (eV 2) (eC (.int 1013))) (eC (.int 16807)))) (eC (.int 2147483647)))))))
theorem yu (T:Txt K mg a w):dm P w K mg base fK 1 a.bl a.bm ["_law_cell","_law_k"] (jB K a.ct [0,0] 0 et) :=
 lf (ms:=[.ow 0,.ow 0,.ow 0]) T.aF.fn λ_ _ _ _ _ _ hr nd=>(zc (lu (XW.t (E5 (Ju xv (qy (k:=0) Tu R5 dh dh)) (EJ (BU (qy (k:=0) LG KY xv (e7 (iA dh (rg dh xv)))) dh)))) (kc (oMod (qy (k:=0) LG KY xv (e7 (iA dh (rg dh xv)))) dh))) (zc (oq nd (oMod (rg (e7 (iA (e7 (iA xv (rg dh xv))) dh)) dh) dh)) (zc (oq nd (oMod (rg xv (e7 (iA (oDiv xv dh) dh))) dh)) (zj (kc (oMod (rg xv (e7 (iA (oDiv xv dh) dh))) dh))))))
noncomputable def iP:SF:=(sSeq (sSet 10 (e2 cP (e2 iw (eV 0) (e2 cP (eC (.int 64)) (e2 ig (eC (.int 37)) (eV 9)))) (e2 ig (eV 7) (eN qZ (aCons (e2 (fR false) (eV 9) (eV 5)) aNil)))))
  (sIf (tb (e2 (fR false) (eV 9) (eC (.int 0)))) (sSet 8 (e2 dY (eV 2) (e2 eU (eV 10) (eC (.int 26))))) (sSet 8 (e2 cP (eV 8) (e2 dY (eV 3) (e2 eU (eV 10) (eC (.int 36))))))))
noncomputable def gR:SF:=(sSeq (sSet 8 (eC (.str "")))
  (sSeq (sFor (λρ=>((aCons (eV 4) aNil) ρ).bind pz) (gV 9) iP)
  (sApp 6 (eV 8))))
noncomputable def iX:List D->Option D:=mOf ["_law_cell","_law_many","_law_letters","_law_signs","_law_size","_law_at","_law_names_here","_law_k","_law_name","_law_j","_law_sign"]
  (sSeq (sSet 2 (eC (.str "abcdefghijklmnopqrstuvwxyz")))
  (sSeq (sSet 3 (e2 cP (eV 2) (eC (.str "0123456789"))))
  (sSeq (sSet 4 (e2 cP (eC (.int 1)) (e2 eU (eV 0) (eC (.int 8)))))
  (sSeq (sSet 5 (e2 eU (e2 iw (eV 0) (eC (.int 8))) (eV 4)))
  (sSeq (sSet 6 (λρ=>(aNil ρ).bind λds=>some (.lst ds)))
  (sSeq (sFor (λρ=>((aCons (eV 1) aNil) ρ).bind pz) (gV 7) gR)
  (sRet (eV 6))))))))
theorem jm (T:Txt K mg a w):dm P w K mg base fK 1 a.bn a.bo ["_law_cell","_law_many"] (jB K a.ct [0,0] 0 iX) :=
 lf (ms:=[.ow 0,.ow 0,.ow 0,.ow 0,.ow 0,.ow 0,.ow 1,.ow 0,.ow 0,.ow 0,.ow 0]) T.aG.fn λ_ _ _ _ _ _ hr nd=>(zc (oq nd (zl (n:=0))) (zc (mX nd (kG (iA xv (zl (n:=0))))) (zc (mX nd (kG (iA dh (oMod xv dh)))) (zc (oq nd (oMod (oDiv xv dh) xv)) (zc (mX nd (yb (k:=0) zn)) (zc (xF (wm (n:=0) T.bk (za xv ze)) (oI nd) (zc (oq nd (zl (n:=0))) (zc (xF (wm (n:=0) T.bk (za xv ze)) (oI nd) (zc (mX nd (kG (iA (oDiv xv (e7 (iA dh (rg dh xv)))) (rg xv (zo (k:=0) JS Le rfl T.be xj (za (vEq hr xv xv) ze)))))) (zj (By (oV hr xv dh) (zj (oq nd (iB xv (oMod xv dh)))) (zj (mX nd (kG (iA xv (iB xv (oMod xv dh)))))))))) (zj (ul 6 rfl (XE.ow xv)))))) (zj (Lk (i:=6) rfl))))))))
noncomputable def fF:List D->Option D:=mOf ["_law_cell","_law_k","_law_many","_law_number","_law_start","_law_goal","_law_behind","_law_more","_law_time","_law_word"]
  (sSeq (sSet 3 (λρ=>((aCons (eV 0) (aCons (eV 1) aNil)) ρ).bind λds=>et (ds++[])))
  (sSeq (sSet 4 (e2 eU (eV 3) (eV 2)))
  (sSeq (sSet 5 (e2 eU (e2 iw (eV 3) (eC (.int 8))) (eV 2)))
  (sSeq (sSet 6 (e2 dY (λρ=>((aCons (eC (.int 0)) (aCons (eC (.int 0)) (aCons (eC (.int 1)) (aCons (eC (.int 1)) (aCons (eC (.int 2)) (aCons (eC (.int 3)) (aCons (eC (.int 4)) aNil))))))) ρ).bind λds=>some (.lst ds)) (e2 eU (e2 iw (eV 3) (eC (.int 64))) (eC (.int 7)))))
  (sSeq (sIf (tb (e2 (fR false) (eV 4) (eV 5))) (sSet 6 (eN mF (aCons (eC (.int 1)) (aCons (eV 6) aNil)))) sSkip)
  (sSeq (sIf (tb (e2 (fR false) (eV 6) (eC (.int 0)))) (sPar 4 5 (aCons (eN uJ (aCons (eV 4) (aCons (eV 5) aNil))) (aCons (eN mF (aCons (eV 4) (aCons (eV 5) aNil))) aNil))) sSkip)
  (sSeq (sSet 7 (e2 iw (eV 3) (eC (.int 512))))
  (sSeq (sSet 8 (e2 dY (λρ=>((aCons (e2 eU (eV 7) (eC (.int 10))) (aCons (e2 eU (eV 7) (e2 cP (e2 vD (eC (.int 10)) (eC (.int 9))) (eC (.int 1)))) (aCons (e2 vD (eC (.int 10)) (eC (.int 9))) (aCons (eC (.int 0)) aNil)))) ρ).bind λds=>some (.lst ds)) (e2 eU (e2 iw (eV 3) (eC (.int 448))) (eC (.int 4)))))
  (sSeq (sSet 9 (e2 dY (λρ=>((aCons (eC (.str "wait")) (aCons (eC (.str "ride")) (aCons (eC (.str "wait")) (aCons (eC (.str "back")) aNil)))) ρ).bind λds=>some (.lst ds)) (e2 cP (e2 ig (eC (.int 2)) (eN qZ (aCons (e2 xU (eV 6) (eC (.int 0))) aNil))) (e2 eU (e2 iw (eV 3) (eC (.int 1792))) (eC (.int 2))))))
  (sRet (λρ=>((aCons (eV 9) (aCons (eV 4) (aCons (eV 5) (aCons (eV 8) (aCons (eV 6) aNil))))) ρ).bind λds=>some (.tup ds))))))))))))
theorem OK (T:Txt K mg a w):dm P w K mg base fK 2 a.bp a.bq ["_law_cell","_law_k","_law_many"] (jB K a.ct [0,0,0] 0 fF) :=
 lf (ms:=[.ow 0,.ow 0,.ow 0,.ow 0,.ow 0,.ow 0,.ow 0,.ow 0,.ow 0,.ow 0]) T.aH.fn λ_ _ _ _ _ _ hr nd=>(zc (mX nd (l5 T.aF (yu T) hr (za xv (za xv ze)))) (zc (oq nd (oMod xv xv)) (zc (oq nd (oMod (oDiv xv dh) xv)) (zc (oq nd (iB (e7 (yb (k:=0) (zh (XE.ow dh) (zh (XE.ow dh) (zh (XE.ow dh) (zh (XE.ow dh) (zh (XE.ow dh) (zh (XE.ow dh) (zh (XE.ow dh) zn))))))))) (oMod (oDiv xv dh) dh))) (zc (lu (oV hr xv xv) (oq nd (yx (k:=0) (uf rfl) ju rfl T.bi DI (za dh (za xv ze))))) (zc (lu (oV hr xv dh) (Ug rfl rfl rfl nd rfl rfl (by decide) rfl rfl (za (yx (k:=0) (PM rfl) QN rfl T.bj TU (za xv (za xv ze))) (za (yx (k:=0) (uf rfl) ju rfl T.bi DI (za xv (za xv ze))) ze)) rfl)) (zc (oq nd (oDiv xv dh)) (zc (oq nd (iB (e7 (yb (k:=0) (zh (XE.ow (oMod xv dh)) (zh (XE.ow (oMod xv (e7 (iA (qy (k:=0) HM HH dh dh) dh)))) (zh (XE.ow (qy (k:=0) HM HH dh dh)) (zh (XE.ow dh) zn)))))) (oMod (oDiv xv dh) dh))) (zc (oq nd (iB (e7 (yb (k:=0) (zh (XE.ow (zl (n:=0))) (zh (XE.ow (zl (n:=0))) (zh (XE.ow (zl (n:=0))) (zh (XE.ow (zl (n:=0))) zn)))))) (e7 (iA (rg dh (zo (k:=0) JS Le rfl T.be xj (za (On xv dh) ze))) (oMod (oDiv xv dh) dh))))) (zj (ym (kG (vv (zh (XE.ow xv) (zh (XE.ow xv) (zh (XE.ow xv) (zh (XE.ow xv) (zh (XE.ow xv) zn))))))))))))))))))
noncomputable def kL:List D->Option D:=mOf ["_law_names_here","_law_arrow_here","_law_word","_law_start","_law_goal","_law_time","_law_behind","_law_row_here"]
  (sSeq (sAsg (gT (gsCons (gV 2) (gsCons (gV 3) (gsCons (gV 4) (gsCons (gV 5) (gsCons (gV 6) gsNil)))))) (eV 1))
  (sSeq (sSet 7 (e2 cP (e2 cP (e2 cP (e2 cP (eV 2) (eC (.str " "))) (e2 dY (eV 0) (eV 3))) (eC (.str " "))) (e2 dY (eV 0) (eV 4))))
  (sSeq (sSet 7 (e2 cP (e2 cP (eV 7) (eC (.str " "))) (eN nr (aCons (eV 5) aNil))))
  (sSeq (sIf (tb (e2 (fR true) (eV 2) (eC (.str "ride")))) (sSet 7 (e2 cP (e2 cP (eV 7) (eC (.str " "))) (eN nr (aCons (eV 6) aNil)))) sSkip)
  (sRet (eV 7))))))
theorem JP (T:Txt K mg a w):dm P w K mg base fK 1 a.br a.bs ["_law_names_here","_law_arrow_here"] (jB K a.ct [0,0] 0 kL) :=
 lf (ms:=[.ow 0,.ow 0,.ow 0,.ow 0,.ow 0,.ow 0,.ow 0,.ow 0]) T.aI.fn λ_ _ _ _ _ _ hr nd=>(zc (E7 xv (DJ (n:=0) rfl (ye (oI nd) (ye (oI nd) (ye (oI nd) (ye (oI nd) (ye (oI nd) qf))))))) (zc (mX nd (kG (iA (e7 (iA (e7 (iA (e7 (iA xv (zl (n:=0)))) (iB xv xv))) (zl (n:=0)))) (iB xv xv)))) (zc (mX nd (kG (iA (e7 (iA xv (zl (n:=0)))) (zo (k:=0) ya x8 rfl T.bl wx (za xv ze))))) (zc (lu (BV hr xv (zl (n:=0))) (mX nd (kG (iA (e7 (iA xv (zl (n:=0)))) (zo (k:=0) ya x8 rfl T.bl wx (za xv ze)))))) (zj (kc xv))))))
noncomputable def k9:EF:=(gK (lsD (eV 1)) 1 [0] (gV 0) kE (λρ=>((aCons (eV 1) (aCons (eV 0) aNil)) ρ).bind λds=>kL (ds++[])))
noncomputable def iO:List D->Option D:=mOf ["_law_names_here","_law_plain"]
  (sRet (e2 cP (λρ=>((aCons (e2 iJ (eC (.str " ")) (e2 cP (λρ=>((aCons (eC (.str "goings")) aNil) ρ).bind λds=>some (.lst ds)) (eV 0))) aNil) ρ).bind λds=>some (.lst ds)) k9))
theorem qq (T:Txt K mg a w):dm P w K mg base fK 2 a.bt a.bu ["_law_names_here","_law_plain"] (jB K a.ct [0,0] 1 iO) :=
 lf (ms:=[.ow 0,.ow 0]) T.aJ.fn λ_ _ _ _ _ _ hr nd=>(zj (ym (iA (e7 (yb (k:=0) (zh (XE.ow (wv (k:=0) (zl (n:=0)) (e7 (iA (e7 (yb (k:=0) (zh (XE.ow (zl (n:=0))) zn))) xv)))) zn))) (e7 (zW (N:=["_law_arrow_here","_law_names_here"]) (om:=[.ow 0]) (cap:=[0]) (own:=1) (wu (n:=0) xv) (λ_ _ _ _ _ h=>(rN h)) (λ_ _ _ _ _=>x6) (λ_ _ _ _ _=>(l5 T.aI (JP T) hr (za xv (za xv ze)))))))))
noncomputable def ip:SF:=(sSeq (sSet 8 (e2 eU (λρ=>((aCons (eV 0) (aCons (e2 cP (eC (.int 9)) (eV 7)) aNil)) ρ).bind λds=>et (ds++[])) (eC (.int 1000))))
  (sSeq (sSet 5 (e2 cP (e2 cP (e2 cP (e2 cP (eV 5) (eC (.str " "))) (e2 dY (eV 2) (e2 dY (eV 3) (eV 7)))) (eC (.str " "))) (eN nr (aCons (eV 8) aNil))))
  (sIf (tb (e2 rK (eV 7) (e2 vM (eN eO (aCons (eV 3) aNil)) (eC (.int 1))))) (sApp 6 (λρ=>((aCons (eC (.str "ride")) (aCons (e2 dY (eV 3) (eV 7)) (aCons (e2 dY (eV 3) (e2 cP (eV 7) (eC (.int 1)))) (aCons (eV 8) (aCons (eC (.int 0)) aNil))))) ρ).bind λds=>some (.tup ds))) (sApp 6 (λρ=>((aCons (eC (.str "back")) (aCons (e2 dY (eV 3) (eV 7)) (aCons (e2 dY (eV 3) (eC (.int 0))) (aCons (eV 8) (aCons (eV 4) aNil))))) ρ).bind λds=>some (.tup ds))))))
noncomputable def k8:EF:=(gK (λρ=>((aCons (eV 1) aNil) ρ).bind pz) 1 [0] (gV 0) (tb (e2 (fR false) (e2 eU (λρ=>((aCons (eV 1) (aCons (eV 0) aNil)) ρ).bind λds=>et (ds++[])) (eC (.int 2))) (eC (.int 1)))) (eV 0))
noncomputable def k6:List D->Option D:=mOf ["_law_cell","_law_many","_law_names_here","_law_stops","_law_cars","_law_row_here","_law_plain","_law_j","_law_time"]
  (sSeq (sSet 3 (λρ=>(k8 ρ).bind λd=>(pNo ρ).bind λl=>((pInt (eC (.int 3))) ρ).bind λh=>dP d l h))
  (sSeq (sIf (tb (e2 (fR false) (eV 3) (λρ=>(aNil ρ).bind λds=>some (.lst ds)))) (sSet 3 (λρ=>((aCons (e2 eU (eV 0) (eV 1)) aNil) ρ).bind λds=>some (.lst ds))) sSkip)
  (sSeq (sSet 4 (e2 cP (eC (.int 1)) (e2 eU (eV 0) (eC (.int 4)))))
  (sSeq (sSet 5 (e2 cP (eC (.str "line ")) (eN nr (aCons (eV 4) aNil))))
  (sSeq (sSet 6 (λρ=>(aNil ρ).bind λds=>some (.lst ds)))
  (sSeq (sFor (λρ=>((aCons (eN eO (aCons (eV 3) aNil)) aNil) ρ).bind pz) (gV 7) ip)
  (sFz 6 (sRet (λρ=>((aCons (eV 5) (aCons (eV 6) aNil)) ρ).bind λds=>some (.tup ds))))))))))
theorem OV (T:Txt K mg a w):dm P w K mg base fK 2 a.bv a.bw ["_law_cell","_law_many","_law_names_here"] (jB K a.ct [0,0,0] 0 k6) :=
 lf (ms:=[.ow 0,.ow 0,.ow 0,.ow 0,.ow 0,.ow 0,.ow 1,.ow 0,.ow 0]) T.aK.fn λ_ _ _ _ _ _ hr nd=>(zc (mX nd (kG (yg (n:=0) (by decide) (e7 (zW (N:=["_law_going","_law_cell"]) (om:=[.ow 0]) (cap:=[0]) (own:=1) (XI.cc (wm (n:=0) T.bk (za xv ze))) (λ_ _ _ _ _ h=>(rN h)) (λ_ _ _ _ _=>(EK (oV hr (oMod (xc T.aF (yu T) hr (za xv (za xv ze))) dh) dh))) (λ_ _ _ _ _=>(XE.ow xv)))) v7 (yj dh)))) (zc (lu (oV hr xv (e7 (yb (k:=0) zn))) (mX nd (kG (yb (k:=0) (zh (XE.ow (oMod xv xv)) zn))))) (zc (mX nd (kG (iA dh (oMod xv dh)))) (zc (mX nd (kG (iA (zl (n:=0)) (zo (k:=0) ya x8 rfl T.bl wx (za xv ze))))) (zc (mX nd (yb (k:=0) zn)) (zc (xF (wm (n:=0) T.bk (za (nu T.bg (za xv ze)) ze)) (oI nd) (zc (oq nd (oMod (xc T.aF (yu T) hr (za xv (za (e7 (iA dh xv)) ze))) dh)) (zc (mX nd (kG (iA (e7 (iA (e7 (iA (e7 (iA xv (zl (n:=0)))) (iB xv (iB xv xv)))) (zl (n:=0)))) (zo (k:=0) ya x8 rfl T.bl wx (za xv ze))))) (zj (By (yD xv (Bg (nu T.bg (za xv ze)) dh)) (zj (ul 6 rfl (kG (vv (zh (XE.ow (zl (n:=0))) (zh (XE.ow (iB xv xv)) (zh (XE.ow (iB xv (e7 (iA xv dh)))) (zh (XE.ow xv) (zh (XE.ow dh) zn))))))))) (zj (ul 6 rfl (kG (vv (zh (XE.ow (zl (n:=0))) (zh (XE.ow (iB xv xv)) (zh (XE.ow (iB xv dh)) (zh (XE.ow xv) (zh (XE.ow xv) zn)))))))))))))) (Uk (i:=6) rfl (zj (ym (kG (vv (zh (XE.ow xv) (zh (XE.ow xv) zn)))))))))))))
noncomputable def f6:List D->Option D:=mOf ["_law_cell","_law_k","_law_names_here","_law_plain","_law_number","_law_way","_law_at","_law_word","_law_start","_law_goal","_law_time","_law_behind","_law_after","_law_row_here","_law_more","_law_arrow_here"]
  (sSeq (sSet 4 (λρ=>((aCons (eV 0) (aCons (eV 1) aNil)) ρ).bind λds=>et (ds++[])))
  (sSeq (sSet 5 (e2 eU (eV 0) (eC (.int 11))))
  (sSeq (sSet 6 (e2 eU (eV 4) (eN mF (aCons (eC (.int 1)) (aCons (eN eO (aCons (eV 3) aNil)) aNil)))))
  (sSeq (sIf (tb (e2 (fR false) (eV 5) (eC (.int 10)))) (sSeq (sSet 2 (λρ=>((aCons (eV 4) (aCons (eN eO (aCons (eV 2) aNil)) aNil)) ρ).bind λds=>iX (ds++[])))
  (sRet (λρ=>((aCons (e2 iJ (eC (.str " ")) (e2 cP (λρ=>((aCons (eC (.str "goings")) aNil) ρ).bind λds=>some (.lst ds)) (eV 2))) (aCons (eV 2) (aCons (λρ=>(aNil ρ).bind λds=>some (.lst ds)) aNil))) ρ).bind λds=>some (.tup ds)))) sSkip)
  (sSeq (sIf (bAnd (tb (e2 rK (eV 5) (eC (.int 3)))) (tb (e2 (fR true) (eV 3) (λρ=>(aNil ρ).bind λds=>some (.lst ds))))) (sRet (λρ=>((aCons (e2 cP (eC (.str "cut ")) (eN nr (aCons (eV 6) aNil))) (aCons (eV 2) (aCons (e2 cP (λρ=>((eV 3) ρ).bind λd=>(pNo ρ).bind λl=>((pInt (eV 6)) ρ).bind λh=>dP d l h) (λρ=>((eV 3) ρ).bind λd=>((pInt (e2 cP (eV 6) (eC (.int 1)))) ρ).bind λl=>(pNo ρ).bind λh=>dP d l h)) aNil))) ρ).bind λds=>some (.tup ds))) sSkip)
  (sSeq (sIf (bAnd (tb (e2 rK (eV 5) (eC (.int 6)))) (tb (e2 (fR true) (eV 3) (λρ=>(aNil ρ).bind λds=>some (.lst ds))))) (sSeq (sAsg (gT (gsCons (gV 7) (gsCons (gV 8) (gsCons (gV 9) (gsCons (gV 10) (gsCons (gV 11) gsNil)))))) (e2 dY (eV 3) (eV 6)))
  (sSeq (sSet 10 (e2 eU (e2 iw (eV 4) (eC (.int 16))) (e2 dY (λρ=>((aCons (eC (.int 10)) (aCons (e2 cP (e2 vD (eC (.int 10)) (eC (.int 9))) (eC (.int 1))) aNil)) ρ).bind λds=>some (.lst ds)) (e2 eU (e2 iw (eV 4) (eC (.int 8))) (eC (.int 2))))))
  (sSeq (sSet 12 (e2 cP (e2 cP (λρ=>((eV 3) ρ).bind λd=>(pNo ρ).bind λl=>((pInt (eV 6)) ρ).bind λh=>dP d l h) (λρ=>((aCons (λρ=>((aCons (eV 7) (aCons (eV 8) (aCons (eV 9) (aCons (eV 10) (aCons (eV 11) aNil))))) ρ).bind λds=>some (.tup ds)) aNil) ρ).bind λds=>some (.lst ds))) (λρ=>((eV 3) ρ).bind λd=>((pInt (e2 cP (eV 6) (eC (.int 1)))) ρ).bind λl=>(pNo ρ).bind λh=>dP d l h)))
  (sRet (λρ=>((aCons (e2 cP (e2 cP (e2 cP (eC (.str "change ")) (eN nr (aCons (eV 6) aNil))) (eC (.str " "))) (eN nr (aCons (eV 10) aNil))) (aCons (eV 2) (aCons (eV 12) aNil))) ρ).bind λds=>some (.tup ds)))))) sSkip)
  (sSeq (sIf (bOr (tb (e2 (fR false) (eV 5) (eC (.int 6)))) (tb (e2 (fR false) (eV 5) (eC (.int 7))))) (sSeq (sAsg (gT (gsCons (gV 13) (gsCons (gV 14) gsNil))) (λρ=>((aCons (eV 4) (aCons (eN eO (aCons (eV 2) aNil)) (aCons (eV 2) aNil))) ρ).bind λds=>k6 (ds++[])))
  (sRet (λρ=>((aCons (eV 13) (aCons (eV 2) (aCons (e2 cP (eV 3) (eV 14)) aNil))) ρ).bind λds=>some (.tup ds)))) sSkip)
  (sSeq (sSet 15 (λρ=>((aCons (eV 4) (aCons (eC (.int 1)) (aCons (eN eO (aCons (eV 2) aNil)) aNil))) ρ).bind λds=>fF (ds++[])))
  (sRet (λρ=>((aCons (λρ=>((aCons (eV 2) (aCons (eV 15) aNil)) ρ).bind λds=>kL (ds++[])) (aCons (eV 2) (aCons (e2 cP (eV 3) (λρ=>((aCons (eV 15) aNil) ρ).bind λds=>some (.lst ds))) aNil))) ρ).bind λds=>some (.tup ds)))))))))))
theorem OW (T:Txt K mg a w):dm P w K mg base fK 3 a.bx a.bz ["_law_cell","_law_k","_law_names_here","_law_plain"] (jB K a.ct [0,0,0,0] 0 f6) :=
 lf (ms:=[.ow 0,.ow 0,.ow 0,.ow 0,.ow 0,.ow 0,.ow 0,.ow 0,.ow 0,.ow 0,.ow 0,.ow 0,.ow 0,.ow 0,.ow 0,.ow 0]) T.aL.fn λ_ _ _ _ _ _ hr nd=>(zc (mX nd (l5 T.aF (yu T) hr (za xv (za xv ze)))) (zc (oq nd (oMod xv dh)) (zc (oq nd (oMod xv (yx (k:=0) (uf rfl) ju rfl T.bi DI (za dh (za (nu T.bg (za xv ze)) ze))))) (zc (By (oV hr xv dh) (zc (mX nd (l5 T.aG (jm T) hr (za xv (za (nu T.bg (za xv ze)) ze)))) (zj (ym (kG (vv (zh (XE.ow (wv (k:=0) (zl (n:=0)) (e7 (iA (e7 (yb (k:=0) (zh (XE.ow (zl (n:=0))) zn))) xv)))) (zh (XE.ow xv) (zh (kG (yb (k:=0) zn)) zn)))))))) wq) (zc (lu (XW.t (E5 (yD xv dh) (EJ (BV hr xv (e7 (yb (k:=0) zn)))))) (ym (kG (vv (zh (kG (iA (zl (n:=0)) (zo (k:=0) ya x8 rfl T.bl wx (za xv ze)))) (zh (XE.ow xv) (zh (kG (iA (e7 (yg (n:=0) (by decide) xv v7 (yj xv))) (e7 (yg (n:=0) (by decide) xv (yj (e7 (iA xv dh))) v7)))) zn))))))) (zc (By (XW.t (E5 (yD xv dh) (EJ (BV hr xv (e7 (yb (k:=0) zn)))))) (zc (E7 (iB xv xv) (DJ (n:=0) rfl (ye (oI nd) (ye (oI nd) (ye (oI nd) (ye (oI nd) (ye (oI nd) qf))))))) (zc (oq nd (oMod (oDiv xv dh) (iB (e7 (yb (k:=0) (zh (XE.ow dh) (zh (kG (iA (qy (k:=0) HM HH dh dh) dh)) zn)))) (oMod (oDiv xv dh) dh)))) (zc (mX nd (kG (iA (e7 (iA (e7 (yg (n:=0) (by decide) xv v7 (yj xv))) (e7 (yb (k:=0) (zh (kG (vv (zh (XE.ow xv) (zh (XE.ow xv) (zh (XE.ow xv) (zh (XE.ow xv) (zh (XE.ow xv) zn))))))) zn))))) (e7 (yg (n:=0) (by decide) xv (yj (e7 (iA xv dh))) v7))))) (zj (ym (kG (vv (zh (kG (iA (e7 (iA (e7 (iA (zl (n:=0)) (zo (k:=0) ya x8 rfl T.bl wx (za xv ze)))) (zl (n:=0)))) (zo (k:=0) ya x8 rfl T.bl wx (za xv ze)))) (zh (XE.ow xv) (zh (XE.ow xv) zn)))))))))) wq) (zc (By (XW.t (uj (oV hr xv dh) (w6 (oV hr xv dh)))) (zc (E7 (xc T.aK (OV T) hr (za xv (za (nu T.bg (za xv ze)) (za xv ze)))) (DJ (n:=0) rfl (ye (oI nd) (ye (oI nd) qf)))) (zj (ym (kG (vv (zh (XE.ow xv) (zh (XE.ow xv) (zh (kG (iA xv xv)) zn)))))))) wq) (zc (mX nd (l5 T.aH (OK T) hr (za xv (za dh (za (nu T.bg (za xv ze)) ze))))) (zj (ym (kG (vv (zh (l5 T.aI (JP T) hr (za xv (za xv ze))) (zh (XE.ow xv) (zh (kG (iA xv (e7 (yb (k:=0) (zh (XE.ow xv) zn))))) zn)))))))))))))))
noncomputable def oR:SF:=(sSeq (sAsg (gT (gsCons (gV 7) (gsCons (gV 2) (gsCons (gV 5) gsNil)))) (λρ=>((aCons (λρ=>((aCons (eV 0) (aCons (e2 cP (eC (.int 1)) (eV 6)) aNil)) ρ).bind λds=>gu (ds++[])) (aCons (eV 6) (aCons (eV 2) (aCons (eV 5) aNil)))) ρ).bind λds=>f6 (ds++[])))
  (sSeq (oC (Bf (pq (fR true) (gz 3 6 "say" (aCons (eV 7) aNil) cJ) (eC (.str "ok"))) (pq (fR true) (gz 3 6 "say" (aCons (eC (.str "show")) aNil) cJ) (e2 iJ (eC (.str "\n")) (λρ=>((aCons (eV 2) (aCons (eV 5) aNil)) ρ).bind λds=>iO (ds++[]))))) (sRet (eC (.bl false))) sSkip)
  (sSeq (oC (vB (mT (tb (e2 (fR false) (e2 eU (eV 6) (eC (.int 2))) (eC (.int 1))))) (pq (fR true) (gz 4 6 "say" (aCons (e2 cP (e2 cP (eC (.str "back zz zy ")) (eN nr (aCons (eV 6) aNil))) (eC (.str " 1"))) aNil) cJ) (eC (.str "ok")))) (sRet (eC (.bl false))) sSkip)
  (oC (pq (fR true) (gz 3 6 "say" (aCons (eC (.str "show")) aNil) cJ) (e2 iJ (eC (.str "\n")) (λρ=>((aCons (eV 2) (aCons (eV 5) aNil)) ρ).bind λds=>iO (ds++[])))) (sRet (eC (.bl false))) sSkip))))
noncomputable def wZ:List D->Option D:=mOf ["_law_script","_law_first","_law_names_here","_law_desk","_law_beside","_law_plain","_law_k","_law_row_here"]
  (sSeq (sSet 1 (λρ=>((aCons (eV 0) (aCons (eC (.int 0)) aNil)) ρ).bind λds=>gu (ds++[])))
  (sSeq (sSet 2 (λρ=>((aCons (eV 1) (aCons (e2 cP (eC (.int 1)) (e2 eU (λρ=>((aCons (eV 1) (aCons (eC (.int 2)) aNil)) ρ).bind λds=>et (ds++[])) (eC (.int 6)))) aNil)) ρ).bind λds=>iX (ds++[])))
  (sSeq (sSet 3 (λ_=>gS 6 []))
  (sSeq (sSet 4 (λ_=>gS 6 []))
  (sSeq (oC (Bf (pq (fR true) (gz 3 6 "say" (aCons (e2 iJ (eC (.str " ")) (e2 cP (λρ=>((aCons (eC (.str "goings")) aNil) ρ).bind λds=>some (.lst ds)) (eV 2))) aNil) cJ) (eC (.str "ok"))) (pq (fR true) (gz 4 6 "say" (aCons (eC (.str "goings zz zy")) aNil) cJ) (eC (.str "ok")))) (sRet (eC (.bl false))) sSkip)
  (sSeq (sSet 5 (λρ=>(aNil ρ).bind λds=>some (.lst ds)))
  (sSeq (sFor (λρ=>((aCons (eN mF (aCons (eN eO (aCons (λρ=>((eV 0) ρ).bind λd=>((pInt (eC (.int 1))) ρ).bind λl=>((pInt (eC (.int 31))) ρ).bind λh=>dP d l h) aNil)) (aCons (e2 eU (λρ=>((aCons (eV 1) (aCons (eC (.int 3)) aNil)) ρ).bind λds=>et (ds++[])) (eC (.int 12))) aNil))) aNil) ρ).bind pz) (gV 6) oR)
  (λρ=>((λρ=>((λρ=>((gz 4 6 "say" (aCons (eC (.str "show")) aNil) cJ) ρ).bind λr=>(pNo r.2).bind λl=>((pInt (eC (.int 12))) r.2).bind λh=>(tW r.1 l h).bind λd=>some (d,r.2)) ρ).bind λr=>((eC (.str "goings zz zy")) r.2).bind λy=>((fR false) r.1 y).bind λd=>some (d,r.2)) ρ).bind λr=>some (.rt r.1)))))))))
theorem Uq (T:Txt K mg a w):dm P w K mg base fK 9 a.bA a.bB ["_law_script"] (jB K a.ct [0] 0 wZ) :=
 lf (ms:=[.ow 0,.ow 0,.ow 0,.ow 1,.ow 1,.ow 0,.ow 0,.ow 0]) T.aM.fn λ_ _ _ _ _ _ hr nd=>(zc (mX nd (l5 T.aE (v4 T) hr (za xv (za dh ze)))) (zc (mX nd (l5 T.aG (jm T) hr (za xv (za (e7 (iA dh (oMod (xc T.aF (yu T) hr (za xv (za dh ze))) dh))) ze)))) (zc (mX nd (KN (c0:=6) T.h T.aC (vz T) hr)) (zc (mX nd (KN (c0:=6) T.h T.aC (vz T) hr)) (zc (E9 (wM.t (L5 (u7 (k:=0) (jg hr.u64) w9 (ub (i:=3) (c0:=6) (tG rfl) T.h.cl T.aD (yt T) hr (xr vb) (yy (wv (k:=0) (zl (n:=0)) (e7 (iA (e7 (yb (k:=0) (zh (XE.ow (zl (n:=0))) zn))) xv))) xu)) (zl (n:=0)) (f9 _)) (Lo (u7 (k:=0) (jg hr.u64) w9 (ub (i:=4) (c0:=6) (tG rfl) T.h.cl T.aD (yt T) hr (xr vb) (yy (zl (n:=0)) xu)) (zl (n:=0)) (f9 _))))) (zj (kc (wp (n:=0)))) wq) (zc (mX nd (kG (yb (k:=0) zn))) (zc (xF (wm (n:=0) T.bk (za (yx (k:=0) (uf rfl) ju rfl T.bi DI (za (nu T.bg (za (e7 (yg (n:=0) (by decide) xv (yj dh) (yj dh))) ze)) (za (oMod (xc T.aF (yu T) hr (za xv (za dh ze))) dh) ze))) ze)) (oI nd) (zc (E7 (xc T.aL (OW T) hr (za (xc T.aE (v4 T) hr (za xv (za (e7 (iA dh xv)) ze))) (za xv (za xv (za xv ze))))) (DJ (n:=0) rfl (ye (oI nd) (ye (oI nd) (ye (oI nd) qf))))) (zc (E9 (wM.t (L5 (u7 (k:=0) (jg hr.u64) w9 (ub (i:=3) (c0:=6) (tG rfl) T.h.cl T.aD (yt T) hr (xr vb) (yy xv xu)) (zl (n:=0)) (f9 _)) (Lo (u7 (k:=0) (jg hr.u64) w9 (ub (i:=3) (c0:=6) (tG rfl) T.h.cl T.aD (yt T) hr (xr vb) (yy (zl (n:=0)) xu)) (wv (k:=0) (zl (n:=0)) (xc T.aJ (qq T) hr (za xv (za xv ze)))) (f9 _))))) (zj (kc (wp (n:=0)))) wq) (zc (E9 (wM.t (RV (Up (oV hr (oMod xv dh) dh)) (QY (u7 (k:=0) (jg hr.u64) w9 (ub (i:=4) (c0:=6) (tG rfl) T.h.cl T.aD (yt T) hr (xr vb) (yy (e7 (iA (e7 (iA (zl (n:=0)) (zo (k:=0) ya x8 rfl T.bl wx (za xv ze)))) (zl (n:=0)))) xu)) (zl (n:=0)) (f9 _))))) (zj (kc (wp (n:=0)))) wq) (zj (E9 (u7 (k:=0) (jg hr.u64) w9 (ub (i:=3) (c0:=6) (tG rfl) T.h.cl T.aD (yt T) hr (xr vb) (yy (zl (n:=0)) xu)) (wv (k:=0) (zl (n:=0)) (xc T.aJ (qq T) hr (za xv (za xv ze)))) (f9 _)) (zj (kc (wp (n:=0)))) wq)))))) (zj (RU (RR (HS hr.u64) w9 (Qb (ub (i:=4) (c0:=6) (tG rfl) T.h.cl T.aD (yt T) hr (xr vb) (yy (zl (n:=0)) xu)) v7 (yj dh)) (zl (n:=0)) (f9 _)))))))))))
end
local macro_rules| `(tactic|walk_at "mir")=>`(tactic|simp -implicitDefEqProofs [mOf,startD,sSeq,sIf,sSet,sRet,sRetN,sDrop,sPar,sAsg,sApp,sFor,lsD,ua,sSkip,eC,e1,e2,eN,aNil,aCons,pNo,pInt,xo,tb,uq,bNot,bAnd,bOr,eB,eIf,gV,gT,gsCons,gsNil,zbd,zbe,v8,zdq,v9,zdr,xg,zbg,zbf,zbh,zhc,zkq,D.isN,D.isB,qj,zhe,um,yf,jj,zaj,zbb,zbc,jw,xo,xq,uo,sFz,zbl,zbm, *])
local macro_rules| `(tactic|walk_at "mid")=>`(tactic|simp -implicitDefEqProofs [mOf,mOf1,mSeq,mRet,sSetM,sNever,startD,sSeq,sIf,sSet,sRet,sRetN,sDrop,sPar,sAsg,sApp,sFor,lsD,ua,sSkip,eC,e1,e2,eN,aNil,aCons,pNo,pInt,xo,tb,uq,bNot,bAnd,bOr,eB,eIf,gV,gT,gsCons,gsNil,zbd,zbe,v8,zdq,v9,zdr,xg,zbg,zbf,zbh,zhc,zkq,D.isN,D.isB,qj,zhe,um,yf,jj,zaj,zbb,zbc,jw,xo,xq,uo,sFz,zbl,zbm, *])
local macro_rules| `(tactic|walk_at "mie")=>`(tactic|simp -implicitDefEqProofs [mOf,mOf1,mSeq,mRet,sSetM,sNever,startD,sSeq,sIf,sSet,sRet,sRetN,sDrop,sPar,sAsg,sApp,sFor,lsD,ua,sSkip,eC,e1,e2,eN,aNil,aCons,pNo,pInt,xo,tb,uq,bNot,bAnd,bOr,eB,eIf,gV,gT,gsCons,gsNil,zbd,zbe,v8,zdq,v9,zdr,xg,zbg,zbf,zbh,qj,zhe,um,yf,jj,zaj,zbb,zbc,jw,xo,xq,uo,sFz,zbl,zbm, *])
noncomputable def nE (n:Nat)(f:Nat->Int):List D:=(cC n).map λg=>D.int (f g)
theorem RW (n:Nat)(f:Nat->Int):(nE n f).length=n:=by simp[nE]
theorem HY {n:Nat}(f:Nat->Int){g:Nat}(h:g<n):atI (nE n f) (g:Int)=some (.int (f g)):=by
 refine yp ?_
 simp[nE,h]
theorem RX {n:Nat}(f:Nat->Int){g:Nat}(h:g<n)(v:Int):pH (nE n f) (g:Int) (.int v)=some (nE n λx=>if x=g then v else f x):=by
 unfold pH
 have hx:ixN (nE n f).length (g:Int)=some g:=by
  unfold ixN
  rw[RW]
  rw[if_pos (by omega),if_pos (by omega)]
  simp
 rw[hx]
 simp only[dO,Option.some.injEq]
 apply wF
 ·simp[nE]
 ·intro i h1 h2
  simp[nE,List.getElem_set]
  by_cases hi:g=i
  ·subst hi;simp
  ·rw[if_neg hi,if_neg (λz=>hi z.symm)]
variable {ρ:L3.Env}
theorem Lp {i:Nat}{fj f:EF}{gi:Int->Int->Int}{n g:Nat}{w:Nat->Int}{y:Int}(h1:(ρ[i]?).join=some (.lst (nE n w)))(h2:fj ρ=some (.int (g:Int)))(h3:f ρ=some (.int y))(hg:g<n) :
  sg i fj gi f ρ=some (.nx (ρ.set i (some (.lst (nE n λx=>if x=g then gi (w g) y else w x))))):=by
 unfold sg
 have:eV i ρ=some (.lst (nE n w)):=h1
 rw[this,h2,h3]
 simp only[dO,HY w hg,RX w hg]
noncomputable def hR (p:List Nat):List D:=p.map λ(x:Nat)=>D.int (x:Int)
theorem L6 {f:EF}{r:L3.Env}{n:Nat}(h:f r=some (.int (n:Int)))(hn:n<=1000000):((aCons f aNil) r).bind pz=some ((cC n).map λ(t:Nat)=>D.int (t:Int)):=by
 have e:(aCons f aNil) r=some [.int (n:Int)]:=by unfold aCons;rw[h];rfl
 rw[e,dO,ur (by omega) (by omega)]
 unfold oH
 simp
variable {α:Type}
theorem qr {fi:L3.Env->Option (List D)}{own:Nat}{cap:List Nat}{g:D->L3.Env->Option L3.Env}{p:BF}{f:EF}{r:L3.Env}(enc:α->D)(q:α->Bool)(h:α->D)(xs:List α)(hi:fi r=some (xs.map enc))(hl:xs.length<=16777216)
  (st:∀x∈xs,∃ρ1,g (enc x) (bQ own none++m6 r cap)=some ρ1/\p ρ1=some (q x)/\(q x=true->f ρ1=some (h x))):gK fi own cap g p f r=some (.lst ((xs.filter q).map h)):=by
 unfold gK
 rw[hi]
 simp only[dO,bN]
 rw[if_pos hl,J9 enc q h xs st]
 rfl
theorem xm {fi:L3.Env->Option (List D)}{own:Nat}{cap:List Nat}{g:D->L3.Env->Option L3.Env}{f:EF}{r:L3.Env}(enc:α->D)(h:α->D)(xs:List α)(hi:fi r=some (xs.map enc))(hl:xs.length<=16777216)
  (st:∀x∈xs,∃ρ1,g (enc x) (bQ own none++m6 r cap)=some ρ1/\f ρ1=some (h x)):gK fi own cap g kE f r=some (.lst (xs.map h)):=by
 have:=qr (p:=kE) enc (λ_=>true) h xs hi hl λx hx=>by
  obtain⟨ρ1,h1,h2⟩:=st x hx
  exact⟨ρ1,h1,rfl,λ_=>h2⟩
 rw[this,List.filter_eq_self.mpr λ_ _=>rfl]
inductive Kd where
 |ride|wait|back
deriving DecidableEq
structure gQ where
 c:Kd
 s:Nat
 g:Nat
 t:Int
 b:Nat
deriving DecidableEq
variable {P:List Nat}{W:List gQ}{a:gQ}{here many:Nat}
namespace Kahn
noncomputable def cnt (W:List gQ)(P:List Nat)(g:Nat):Nat:=W.countP λa=>decide (a.g=g/\a.s∉P)
structure Ok (W:List gQ)(many:Nat)(p:List Nat):Prop where
 nd:p.Nodup
 lt:∀x∈p,x<many
 ord:∀(i x:Nat),p[i]?=some x->∀a∈W,a.g=x->a.s∈p.take i
theorem Ok.snoc {p:List Nat}{x:Nat}(h:Ok W many p)(hx:x∉p)(hl:x<many)(ho:∀a∈W,a.g=x->a.s∈p):Ok W many (p++[x]) where
 nd:=by
  rw[cI]
  exact⟨h.nd,by simp,λa ha b hb e=>by simp at hb;subst hb;subst e;exact hx ha⟩
 lt:=λy hy=>by
  rcases cL.mp hy with hy|hy
  ·exact h.lt y hy
  ·simp at hy;subst hy;exact hl
 ord:=λi y hy a ha e=>by
  by_cases hi:i<p.length
  ·rw[gO hi]at hy
   rw[oM (by omega)]
   exact h.ord i y hy a ha e
  ·rw[ka (by omega)]at hy
   have FW:i-p.length=0:=by
    cases hq:i-p.length with
    |zero=>rfl
    |succ k=>rw[hq]at hy;simp at hy
   rw[FW]at hy
   simp at hy
   subst hy
   have:i=p.length:=by omega
   rw[this,List.take_left']
   ·exact ho a ha e
   ·rfl
noncomputable def stp (here:Nat)(S:(Nat->Int)×List Nat)(a:gQ):(Nat->Int)×List Nat :=
 if a.s=here then
  let f':Nat->Int:=λx=>if x=a.g then S.1 a.g-1 else S.1 x
  (f',if f' a.g=0 then S.2++[a.g]else S.2)
 else S
structure In (W:List gQ)(many:Nat)(P:List Nat)(here:Nat)(pre:List gQ)(S:(Nat->Int)×List Nat):Prop where
 ok:Ok W many S.2
 f:∀g,S.1 g=(cnt W P g:Int)-(pre.countP λa=>decide (a.g=g/\a.s=here):Nat)
 z:∀g,g<many->(g∈S.2↔S.1 g=0)
 sub:∀x,(x∈P\/x=here)->x∈S.2
theorem Ur {pre post:List gQ}(e:W=pre++a::post)(hP:here∉P)(ha:a.s=here):(pre.countP λx=>decide (x.g=a.g/\x.s=here))+1<=cnt W P a.g:=by
 unfold cnt
 rw[e,jZ,iS]
 have h1:(pre.countP λx=>decide (x.g=a.g/\x.s=here))<=pre.countP λx=>decide (x.g=a.g/\x.s∉P):=by
  apply List.countP_mono_left
  intro x _ hx
  simp at hx ⊢
  exact⟨hx.1,by rw[hx.2];exact hP⟩
 have h2:(decide (a.g=a.g/\a.s∉P))=true:=by simp[ha,hP]
 rw[h2]
 simp only[if_true]
 omega
theorem In.step {pre post:List gQ}{S:(Nat->Int)×List Nat}(h:In W many P here pre S)(e:W=pre++a::post)(hP:here∉P)(hl:a.g<many):In W many P here (pre++[a]) (stp here S a):=by
 by_cases ha:a.s=here
 ·have Nt:=Ur e hP ha
  have hf:∀g,(if g=a.g then S.1 a.g-1 else S.1 g)=(cnt W P g:Int)-((pre++[a]).countP λx=>decide (x.g=g/\x.s=here):Nat):=λg=>by
   rw[jZ,sL]
   by_cases hg:g=a.g
   ·subst hg
    rw[if_pos rfl,h.f]
    have:decide (a.g=a.g/\a.s=here)=true:=by simp[ha]
    rw[this]
    simp only[if_true]
    omega
   ·rw[if_neg hg,h.f]
    have:decide (a.g=g/\a.s=here)=false:=by simp;intro z;exact absurd z.symm hg
    rw[this]
    simp
  have mN:S.1 a.g≠0:=by rw[h.f];omega
  have CI:a.g∉S.2:=λz=>mN ((h.z a.g hl).mp z)
  by_cases h0:S.1 a.g-1=0
  ·have es:stp here S a=(λx=>if x=a.g then S.1 a.g-1 else S.1 x,S.2++[a.g]):=by unfold stp;simp[ha,h0]
   rw[es]
   refine⟨h.ok.snoc CI hl λb hb eb=>?_,hf,λg hg=>?_,λx hx=>cG _ (h.sub x hx)⟩
   ·
    refine h.sub _ (Classical.byContradiction λhc=>?_)
    have D4:b.s∉P:=λz=>hc (.inl z)
    have Ct:b.s≠here:=λz=>hc (.inr z)
    have h1:cnt W P a.g=(pre.countP λx=>decide (x.g=a.g/\x.s=here))+1:=by
     have:=h.f a.g
     omega
    have h2:(W.countP λx=>decide (x.g=a.g/\x.s=here))+(W.countP λx=>decide (x.g=a.g/\x.s∉P/\x.s≠here))<=cnt W P a.g:=by
     have:cnt W P a.g=(W.countP λx=>decide (x.g=a.g/\x.s=here))+(W.countP λx=>decide (x.g=a.g/\x.s∉P/\x.s≠here)):=by
      unfold cnt
      clear h1 hc D4 Ct eb hb h0 hf Nt e h
      induction W with
      |nil=>rfl
      |cons x W ih=>
       simp only[iS]
       rw[ih]
       by_cases q1:x.g=a.g<;>by_cases q2:x.s=here<;>by_cases q3:x.s∈P<;>simp_all<;>omega
     omega
    have h3:(pre.countP λx=>decide (x.g=a.g/\x.s=here))+1<=W.countP λx=>decide (x.g=a.g/\x.s=here):=by
     rw[e,jZ,iS]
     have:decide (a.g=a.g/\a.s=here)=true:=by simp[ha]
     rw[this]
     simp only[if_true]
     omega
    have h4:0<W.countP λx=>decide (x.g=a.g/\x.s∉P/\x.s≠here):=by
     rw[List.countP_pos_iff]
     exact⟨b,hb,by simp[eb,D4,Ct]⟩
    omega
   ·rw[cL,cj]
    by_cases xV:g=a.g
    ·subst xV;simp[h0]
    ·dsimp only;rw[if_neg xV,h.z g hg];simp[xV]
  ·have es:stp here S a=(λx=>if x=a.g then S.1 a.g-1 else S.1 x,S.2):=by unfold stp;simp[ha,h0]
   rw[es]
   refine⟨h.ok,hf,λg hg=>?_,h.sub⟩
   by_cases xV:g=a.g
   ·subst xV
    dsimp only
    rw[if_pos rfl]
    exact⟨λz=>absurd z CI,λz=>absurd z h0⟩
   ·dsimp only;rw[if_neg xV];exact h.z g hg
 ·have:stp here S a=S:=by unfold stp;rw[if_neg ha]
  rw[this]
  refine⟨h.ok,λg=>?_,h.z,h.sub⟩
  rw[jZ,sL]
  have:decide (a.g=g/\a.s=here)=false:=by simp[ha]
  rw[this,h.f]
  simp
theorem In.fold {W:List gQ}{many:Nat}{P:List Nat}{here:Nat}(hP:here∉P)(hl:∀a∈W,a.g<many):∀(post pre:List gQ) (S:(Nat->Int)×List Nat),W=pre++post->In W many P here pre S->In W many P here W (post.foldl (stp here) S)
 |[],pre,S,e,h=>by rw[e] ;simpa using(by rw[cV]at e;subst e;exact h)
 |a::post,pre,S,e,h=>by
  have:=In.fold hP hl post (pre++[a]) (stp here S a) (by rw[e];simp) (h.step e hP (hl a (by rw[e];simp)))
  exact this
theorem Q4 {g:Nat}(hP:here∉P):(cnt W P g:Int)-(W.countP λa=>decide (a.g=g/\a.s=here):Nat)=cnt W (P++[here]) g:=by
 have:cnt W P g=(W.countP λa=>decide (a.g=g/\a.s=here))+cnt W (P++[here]) g:=by
  unfold cnt
  induction W with
  |nil=>rfl
  |cons x W ih=>
   simp only[iS]
   rw[ih]
   by_cases q1:x.g=g<;>by_cases q2:x.s=here<;>by_cases q3:x.s∈P<;>simp_all<;>omega
 omega
structure Wh (W:List gQ)(many:Nat)(f:Nat->Int)(p:List Nat)(d:Nat):Prop where
 ok:Ok W many p
 dl:d<=p.length
 fe:∀g,f g=cnt W (p.take d) g
 z:∀g,g<many->(g∈p↔f g=0)
theorem Wh.step {f:Nat->Int}{p:List Nat}{d:Nat}(h:Wh W many f p d)(hl:∀a∈W,a.g<many)(hh:p[d]?=some here) :
  Wh W many (W.foldl (stp here) (f,p)).1 (W.foldl (stp here) (f,p)).2 (d+1)/\∃q,(W.foldl (stp here) (f,p)).2=p++q:=by
 have hd:d<p.length:=(cB.mp hh).1
 have hP:here∉p.take d:=λz=>by
  obtain⟨i,hi,e⟩:=mn.mp z
  have FW:i<d:=by rw[dR]at hi;omega
  rw[vS]at e
  have e2:p[d]=here:=by have:=cB.mp hh;exact this.2
  have:=(kT (xs:=p) (h₀:=by omega) (h₁:=hd) h.ok.nd).mp (e.trans e2.symm)
  omega
 have FR:∀(l:List gQ) (S:(Nat->Int)×List Nat),∃q,(l.foldl (stp here) S).2=S.2++q:=by
  intro l
  induction l with
  |nil=>exactλS=>⟨[],by simp⟩
  |cons a l ih=>
   intro S
   obtain⟨q,hq⟩:=ih (stp here S a)
   have:∃r,(stp here S a).2=S.2++r:=by
    by_cases ha:a.s=here
    ·by_cases h0:S.1 a.g-1=0
     ·exact⟨[a.g],by unfold stp;simp[ha,h0]⟩
     ·exact⟨[],by unfold stp;simp[ha,h0]⟩
    ·exact⟨[],by unfold stp;simp[ha]⟩
   obtain⟨r,hr⟩:=this
   exact⟨r++q,by rw[lG,hq,hr,dz]⟩
 obtain⟨q,hq⟩:=FR W (f,p)
 have I:=In.fold hP hl W [] (f,p) rfl ⟨h.ok,λg=>by show f g=_;rw[h.fe];simp,h.z,λx hx=>by
  rcases hx with hx|rfl
  ·exact jA hx
  ·exact fw.mpr ⟨d,hh⟩⟩
 have CK:(W.foldl (stp here) (f,p)).2.take (d+1)=p.take d++[here]:=by
  rw[hq]
  show(p++q).take (d+1)=_
  rw[oM (by omega),List.take_succ,hh]
  rfl
 refine⟨⟨I.ok,?_,λg=>?_,I.z⟩,q,hq⟩
 ·rw[hq]
  show d+1<=(p++q).length
  rw[cv];omega
 ·rw[I.f,CK]
  exact Q4 hP
theorem cnt_zero {g:Nat}:cnt W P g=0↔∀a∈W,a.g=g->a.s∈P:=by
 unfold cnt
 rw[List.countP_eq_zero]
 constructor
 ·intro h a ha e
  have:=h a ha
  simp at this
  exact Classical.byContradiction λz=>z (this e)
 ·intro h a ha
  simp
  exact h a ha
theorem Wh.all {f:Nat->Int}{p:List Nat}(h:Wh W many f p p.length)(rank:Nat->Nat)(hr:∀a∈W,rank a.s<rank a.g)(hs:∀a∈W,a.s<many):∀g,g<many->g∈p:=by
 have:∀n g,rank g<n->g<many->g∈p:=by
  intro n
  induction n with
  |zero=>intro g h;omega
  |succ n ih=>
   intro g hg hl
   rw[h.z g hl,h.fe,List.take_length]
   have:cnt W p g=0:=cnt_zero.mpr λa ha e=>ih a.s (by have:=hr a ha;rw[e]at this;omega) (hs a ha)
   rw[this];rfl
 exactλg hl=>this (rank g+1) g (by omega) hl
theorem len_of {p:List Nat}(nd:p.Nodup)(lt:∀x∈p,x<many)(all:∀g,g<many->g∈p):p.length=many:=by
 have h1:p.Perm (cC many):=by
  rw[pR nd iT]
  intro a
  rw[di]
  exact⟨lt a,all a⟩
 simpa using h1.length_eq
theorem len_le {p:List Nat}(nd:p.Nodup)(lt:∀x∈p,x<many):p.length<=many:=by
 have h1:(p++(cC many).filter λx=>decide (x∉p)).Perm (cC many):=by
  rw[pR (by
   rw[cI]
   refine⟨nd,iT.filter _,λa ha b hb e=>?_⟩
   subst e
   simp at hb
   exact hb.2 ha) iT]
  intro a
  rw[cL,d9,di]
  constructor
  ·rintro(h|h)
   ·exact lt a h
   ·exact h.1
  ·intro h
   by_cases ha:a∈p
   ·exact .inl ha
   ·exact .inr ⟨h,by simpa using ha⟩
 have:=h1.length_eq
 rw[cv,dI]at this
 omega
end Kahn
noncomputable def Kd.n:Kd->Nat
 |.ride=>1|.wait=>2|.back=>3
noncomputable def cA (a:gQ):D:=.obj a.c.n ["start","goal","time","behind"] [.int a.s,.int a.g,.int a.t,.int a.b]
theorem fs (a:gQ):dc [0,1,2,3] "start" (cA a)=some (.int a.s):=by obtain⟨c,_,_,_,_⟩:=a;cases c<;>rfl
theorem fg (a:gQ):dc [0,1,2,3] "goal" (cA a)=some (.int a.g):=by obtain⟨c,_,_,_,_⟩:=a;cases c<;>rfl
theorem ft (a:gQ):dc [0,1,2,3] "time" (cA a)=some (.int a.t):=by obtain⟨c,_,_,_,_⟩:=a;cases c<;>rfl
theorem fb (a:gQ):dc [0,1,2,3] "behind" (cA a)=some (.int a.b):=by obtain⟨c,_,_,_,_⟩:=a;cases c<;>rfl
structure Right (many:Nat)(a:gQ):Prop where
 s:a.s<many
 g:a.g<many
 t0:0<=a.t
 t1:a.t<=1000000000
 b:a.b<=4
 r:a.c=.ride->a.b=0
 k:a.c=.back->1<=a.b
theorem vn {n l m:Int}(h1:l<=n)(h2:n<=m):dG [.int n,.int l,.int m]=some (.bl true):=by
 unfold dG
 have q1 (i:Int):pf "int" (.int i)=some (.bl true):=rfl
 have q2 (i:Int):pf "bool" (.int i)=some (.bl false):=rfl
 walk_at "mir"
theorem isA (all sub:List Nat)(a:gQ):tM all sub (cA a)=if all.contains a.c.n=true then some (.bl (sub.contains a.c.n))else none:=rfl
theorem RY (h:Right many a):k4 [cA a,.int (many:Int)]=some (.bl true):=by
 have w1:dG [.int (a.s:Int),.int 0,.int ((many:Int)-1)]=some (.bl true):=vn (by omega) (by have:=h.s;omega)
 have w2:dG [.int (a.g:Int),.int 0,.int ((many:Int)-1)]=some (.bl true):=vn (by omega) (by have:=h.g;omega)
 have w3:dG [.int a.t,.int 0,.int 1000000000]=some (.bl true):=vn h.t0 h.t1
 have f1:=fs a
 have f2:=fg a
 have f3:=ft a
 have f4:=fb a
 have hi:=λall sub=>isA all sub a
 have hb:=h.b
 have hr:=h.r
 have hk:=h.k
 clear h
 unfold k4
 cases hc:a.c with
 |ride=>
  have w4:dG [.int (a.b:Int),.int 0,.int 0]=some (.bl true):=vn (by omega) (by have:=hr hc;omega)
  rw[hc]at hi
  clear hr hk hb
  have hn:Kd.ride.n=1:=rfl
  walk_at "mir"
 |wait=>
  have w4:dG [.int (a.b:Int),.int 0,.int 4]=some (.bl true):=vn (by omega) (by omega)
  rw[hc]at hi
  clear hr hk hb
  have hn:Kd.wait.n=2:=rfl
  walk_at "mir"
 |back=>
  have w4:dG [.int (a.b:Int),.int 1,.int 4]=some (.bl true):=vn (by have:=hk hc;omega) (by omega)
  rw[hc]at hi
  clear hr hk hb
  have hn:Kd.back.n=3:=rfl
  walk_at "mir"
noncomputable def W0 (as:List gQ):List gQ:=as.filter λa=>decide (a.b=0)
theorem OF (as:List gQ)(l:as.length<=16777216)(r:L3.Env)(h:r[1]?.join=some (.lst (as.map cA))) :
  ko r=some (.lst ((W0 as).map cA)):=by
 have e:lsD (eV 1) r=some (as.map cA):=by unfold lsD;have:eV 1 r=some (.lst (as.map cA)):=h;rw[this];rfl
 refine qr cA (λa=>decide (a.b=0)) cA as e l λa _=>⟨_,rfl,?_,λ_=>rfl⟩
 have:=fb a
 walk_at "mir"
noncomputable def Cf (s:(Nat->Int)×Option D)(a:gQ):(Nat->Int)×Option D:=(λx=>if x=a.g then s.1 a.g+1 else s.1 x,some (cA a))
theorem KO:∀(W:List gQ) (s:(Nat->Int)×Option D) (g:Nat),(W.foldl Cf s).1 g=s.1 g+(W.countP λa=>decide (a.g=g):Nat)
 |[],s,g=>by simp
 |a::W,s,g=>by
  rw[lG,KO W,iS]
  by_cases hg:g=a.g
  ·subst hg;simp[Cf];omega
  ·have:decide (a.g=g)=false:=by simp;exactλz=>hg z.symm
   simp[Cf,hg,this]
theorem Q5 (p:List Nat)(x:Nat):hR p++[D.int (x:Int)]=hR (p++[x]):=by simp[hR]
variable {as:List gQ}
theorem RZ {f:Nat->Int}{p:List Nat}{d:Nat}{x4:Option D}(hm:many<=1000)(hW:∀a∈W0 as,a.s<many/\a.g<many)(h:Kahn.Wh (W0 as) many f p d)(hh:p[d]?=some here) :
  ∃x,lU (gV 4) fD ((W0 as).map cA) [some (.int (many:Int)),some (.lst (as.map cA)),some (.lst ((W0 as).map cA)),some (.lst (nE many f)),x4,some (.lst (hR p)),some (.int (d:Int)),some (.int (here:Int))] =
   some (.nx [some (.int (many:Int)),some (.lst (as.map cA)),some (.lst ((W0 as).map cA)),some (.lst (nE many ((W0 as).foldl (Kahn.stp here) (f,p)).1)),x,some (.lst (hR ((W0 as).foldl (Kahn.stp here) (f,p)).2)),some (.int (d:Int)),some (.int (here:Int))]):=by
 have hd:d<p.length:=(cB.mp hh).1
 have hP:here∉p.take d:=λz=>by
  obtain⟨i,hi,e⟩:=mn.mp z
  have FW:i<d:=by rw[dR]at hi;omega
  rw[vS]at e
  have e2:p[d]=here:=(cB.mp hh).2
  have:=(kT (xs:=p) (h₀:=by omega) (h₁:=hd) h.ok.nd).mp (e.trans e2.symm)
  omega
 obtain⟨ρ',h1,x,pre,e1,e2⟩:=Hq (g:=gV 4) (b:=fD) (ds:=(W0 as).map cA) (ρ:=[some (.int (many:Int)),some (.lst (as.map cA)),some (.lst ((W0 as).map cA)),some (.lst (nE many f)),x4,some (.lst (hR p)),some (.int (d:Int)),some (.int (here:Int))])
  (λds ρ=>∃x pre,ds=pre.map cA/\(∃post,W0 as=pre++post)/\Kahn.In (W0 as) many (p.take d) here pre (pre.foldl (Kahn.stp here) (f,p))/\ρ=[some (.int (many:Int)),some (.lst (as.map cA)),some (.lst ((W0 as).map cA)),some (.lst (nE many (pre.foldl (Kahn.stp here) (f,p)).1)),x,some (.lst (hR (pre.foldl (Kahn.stp here) (f,p)).2)),some (.int (d:Int)),some (.int (here:Int))])
  ⟨x4,[],rfl,⟨_,rfl⟩,⟨h.ok,λg=>by show f g=_;rw[h.fe];simp,h.z,λx hx=>by
   rcases hx with hx|rfl
   ·exact jA hx
   ·exact fw.mpr ⟨d,hh⟩⟩,rfl⟩ (by
  rintro ds dd post ρ e ⟨x,pre,rfl,⟨xG,e'⟩,I,rfl⟩
  rw[e',cW]at e
  have e3:=List.append_cancel_left e
  cases xG with
  |nil=>cases e3
  |cons a xG=>
   rw[cn]at e3
   cases e3
   have ha:a∈W0 as:=by rw[e'];simp
   have hl:=Kahn.len_le I.ok.nd I.ok.lt
   have I2:=I.step e' hP (hW a ha).2
   refine⟨_,_,rfl,.inl ?_,some (cA a),pre++[a],by simp,⟨xG,by rw[e'];simp⟩,by rw[vQ];exact I2,rfl⟩
   rw[vQ]
   generalize pre.foldl (Kahn.stp here) (f,p)=S at hl
   show fD _=some (.nx [_,_,_,some (.lst (nE many (Kahn.stp here S a).1)),_,some (.lst (hR (Kahn.stp here S a).2)),_,_])
   have f1:=fs a
   have f2:=fg a
   have hJ:(hR S.2).length<16777216:=by simp[hR];omega
   unfold fD
   by_cases hs:a.s=here
   ·have yU:((a.s:Nat):Int)=(here:Int):=by rw[hs]
    have au:=Lp (i:=3) (fj:=e1 (dc [0,1,2,3] "goal") (eV 4)) (f:=eC (.int 1)) (gi:=λi j=>i-j) (ρ:=[some (.int (many:Int)),some (.lst (as.map cA)),some (.lst ((W0 as).map cA)),some (.lst (nE many S.1)),some (cA a),some (.lst (hR S.2)),some (.int (d:Int)),some (.int (here:Int))]) (n:=many) (g:=a.g) (w:=S.1) (y:=1) rfl (by walk_at "mir") rfl (hW a ha).2
    have va:dY (.lst (nE many λx=>if x=a.g then S.1 a.g-1 else S.1 x)) (.int (a.g:Int))=some (.int (S.1 a.g-1)):=by
     have:=HY (λx=>if x=a.g then S.1 a.g-1 else S.1 x) (hW a ha).2
     rw[if_pos rfl]at this
     exact this
    by_cases h0:S.1 a.g-1=0
    ·have es:Kahn.stp here S a=(λx=>if x=a.g then S.1 a.g-1 else S.1 x,S.2++[a.g]):=by unfold Kahn.stp;simp[hs,h0]
     rw[es,←Q5]
     rw[h0]at va
     clear I I2 e' es
     walk_at "mir"
    ·have es:Kahn.stp here S a=(λx=>if x=a.g then S.1 a.g-1 else S.1 x,S.2):=by unfold Kahn.stp;simp[hs,h0]
     rw[es]
     clear I I2 e' es
     walk_at "mir"
   ·have es:Kahn.stp here S a=S:=by unfold Kahn.stp;rw[if_neg hs]
    rw[es]
    have yU:¬((a.s:Nat):Int)=(here:Int):=by omega
    clear I I2 e' es
    walk_at "mir")
 obtain⟨⟨post,e2⟩,I,rfl⟩:=e2
 have:pre=W0 as:=by
  have:=congrArg sW e1
  rw[bN,bN]at this
  rw[e2,cv]at this
  have hp:post=[]:=List.eq_nil_of_length_eq_zero (by omega)
  rw[e2,hp,cV]
 rw[this]at h1
 exact⟨x,h1⟩
theorem Q6 (as:List gQ)(l:as.length<=1000)(hm:many<=1000)(hs:∀a∈as,a.s<many/\a.g<many) :
  ∃(f:Nat->Int) (p:List Nat),gj [.int (many:Int),.lst (as.map cA)]=some (.lst (hR p))/\Kahn.Wh (W0 as) many f p p.length:=by
 have hW:∀a∈W0 as,a.s<many/\a.g<many:=λa ha=>hs a (d9.mp ha).1
 obtain⟨c1,_⟩:=J6 (g:=gV 4) (b:=iu) cA (λs:(Nat->Int)×Option D=>[some (.int (many:Int)),some (.lst (as.map cA)),some (.lst ((W0 as).map cA)),some (.lst (nE many s.1)),s.2,none,none,none])
  Cf (λ_=>True) (W0 as) (λ_=>0,none) trivial (λs a ha _=>by
   refine⟨_,rfl,.inl ?_,trivial⟩
   unfold iu
   have f2:=fg a
   rw[Lp (n:=many) (g:=a.g) (w:=s.1) (y:=1) rfl (by walk_at "mir") rfl (hW a ha).2]
   rfl)
 have c2:=KO (W0 as) (λ_=>0,none)
 generalize Ng:(W0 as).foldl Cf (λ_=>0,none)=S0 at c1 c2
 obtain⟨f0,y4⟩:=S0
 dsimp only at c1 c2
 have NE:∀r:L3.Env,r[0]?.join=some (.int (many:Int))->r[3]?.join=some (.lst (nE many f0))->kn r=some (.lst (hR ((cC many).filter λg=>decide (f0 g=0)))):=by
  intro r h0 h3
  refine qr (λ(t:Nat)=>D.int (t:Int)) (λg=>decide (f0 g=0)) (λ(t:Nat)=>D.int (t:Int)) (cC many) (L6 h0 (by omega)) (by rw[dI];omega) ?_
  ·intro g hg
   refine⟨_,rfl,?_,λ_=>rfl⟩
   have hg:g<many:=di.mp hg
   have hv:dY (.lst (nE many f0)) (.int (g:Int))=some (.int (f0 g)):=HY f0 hg
   have hc:m6 r [3]=[some (.lst (nE many f0))]:=by unfold m6;simp[h3]
   rw[hc]
   walk_at "mir"
 generalize hq:((cC many).filter λg=>decide (f0 g=0))=p0 at NE
 have w0:Kahn.Wh (W0 as) many f0 p0 0:=by
  have hf:∀g,f0 g=Kahn.cnt (W0 as) [] g:=λg=>by
   rw[c2 g]
   unfold Kahn.cnt
   simp
  refine⟨⟨by rw[←hq];exact iT.filter _,λx hx=>by rw[←hq,d9,di]at hx;exact hx.1,λi x hx a ha e=>?_⟩,by omega,hf,λg hg=>by rw[←hq,d9,di];simp[hg]⟩
  have A8:x∈p0:=fw.mpr ⟨i,hx⟩
  rw[←hq,d9]at A8
  have h0:f0 x=0:=by simpa using A8.2
  rw[hf]at h0
  have:=Kahn.cnt_zero.mp (by exact_mod_cast h0) a ha e
  cases this
 obtain⟨ρ',h1,⟨f,p,d,x4,x7,rfl,wh⟩,h3⟩:=JI (c:=tb (e2 rK (eV 6) (eN eO (aCons (eV 5) aNil)))) (b:=ir)
  (λρ=>∃f p d x4 x7,ρ=[some (.int (many:Int)),some (.lst (as.map cA)),some (.lst ((W0 as).map cA)),some (.lst (nE many f)),x4,some (.lst (hR p)),some (.int ((d:Nat):Int)),x7]/\Kahn.Wh (W0 as) many f p d)
  (λρ:L3.Env=>match ρ[6]? with|some (some (D.int i))=>(1001-i).toNat|_=>0) (by
   rintro ρ ⟨f,p,d,x4,x7,rfl,wh⟩
   have hl:(hR p).length=p.length:=by simp[hR]
   refine⟨decide ((d:Int)<(p.length:Int)),by walk_at "mir",λht=>?_⟩
   have hd:d<p.length:=by simpa using ht
   have hh:p[d]?=some p[d]:=by simp[hd]
   obtain⟨x,Vz⟩:=RZ (x4:=x4) hm hW wh hh
   obtain⟨DB,q,_⟩:=wh.step (λa ha=>(hW a ha).2) hh
   have oZ:=Kahn.len_le DB.ok.nd DB.ok.lt
   have yQ:=DB.dl
   refine⟨_,.inl ?_,⟨_,_,d+1,x,some (.int (p[d]:Int)),rfl,DB⟩,?_⟩
   ·have VA:dY (.lst (hR p)) (.int (d:Int))=some (.int (p[d]:Int)):=yp (by simp[hR,hd])
    have Vv:i2 (λi j=>D.int (i+j)) (.int (d:Int)) (.int 1)=some (.int ((d+1:Nat):Int)):=by simp[i2]
    unfold ir Bm
    clear wh DB oZ yQ
    walk_at "mir"
   ·show(1001-((d+1:Nat):Int)).toNat<(1001-(d:Int)).toNat
    omega) tf [some (.int (many:Int)),some (.lst (as.map cA)),some (.lst ((W0 as).map cA)),some (.lst (nE many f0)),y4,some (.lst (hR p0)),some (.int ((0:Nat):Int)),none] ⟨f0,p0,0,y4,none,rfl,w0⟩ (by
   show(1001-((0:Nat):Int)).toNat<tf
   have:(1001:Nat)<tf:=Sm (by decide)
   omega)
 have hd:d=p.length:=by
  have hl:(hR p).length=p.length:=by simp[hR]
  have h4:(tb (e2 rK (eV 6) (eN eO (aCons (eV 5) aNil)))) [some (.int (many:Int)),some (.lst (as.map cA)),some (.lst ((W0 as).map cA)),some (.lst (nE many f)),x4,some (.lst (hR p)),some (.int (d:Int)),x7]=some (decide ((d:Int)<(p.length:Int))):=by walk_at "mir"
  rw[h4]at h3
  have:=wh.dl
  simp at h3
  omega
 subst hd
 refine⟨f,p,?_,wh⟩
 have r1:=OF as (by omega)
 have rp:xH (.lst [.int 0]) (.int (many:Int))=some (.lst (nE many λ_=>0)):=by
  unfold xH
  dsimp only
  rw[if_pos ⟨by omega,by omega,by simp⟩]
  congr 2
  unfold nE
  rw[List.map_const',dI]
  simp
 rw[show(((0:Nat):Int))=0 from rfl]at h1
 unfold gj rl
 clear hs hW c2 Ng hq w0 wh h3 l hm
 walk_at "mir"
noncomputable def cN (ns:List D)(as:List gQ):D:=.obj 4 ["names","arrows"] [.lst ns,.lst (as.map cA)]
structure ll (many:Nat)(as:List gQ):Prop where
 pos:1<=many
 le:many<=40
 len:as.length<=120
 right:∀a∈as,Right many a
 rank:∃rank:Nat->Nat,∀a∈as,a.b=0->rank a.s<rank a.g
theorem ll.placed (h:ll many as):∃p:List Nat,gj [.int (many:Int),.lst (as.map cA)]=some (.lst (hR p))/\Kahn.Ok (W0 as) many p/\p.length=many/\∀g,g<many->g∈p:=by
 obtain⟨f,p,h1,h2⟩:=Q6 (many:=many) as (by have:=h.len;omega) (by have:=h.le;omega) (λa ha=>⟨(h.right a ha).s,(h.right a ha).g⟩)
 obtain⟨rank,hr⟩:=h.rank
 have all:=h2.all rank (λa ha=>by
  have:=d9.mp ha
  exact hr a this.1 (by simpa using this.2)) (λa ha=>(h.right a (d9.mp ha).1).s)
 exact⟨p,h1,h2.ok,Kahn.len_of h2.ok.nd h2.ok.lt all,all⟩
theorem Ml {ns:List D}(h:ll many as)(hn:ns.length=many)(IV:fE [.lst ns]=some (.bl true)):ez 4 [.lst ns,.lst (as.map cA)]=some (cN ns as):=by
 obtain⟨p,hp,_,hl,_⟩:=h.placed
 have hJ:=h.len
 obtain⟨ρ',h1,x3,x4,rfl⟩:=Hq (g:=gT (gsCons (gV 3) (gsCons (gV 4) gsNil))) (b:=jP) (ds:=lS 0 (as.map cA)) (ρ:=[some (.obj 4 [] []),some (.lst ns),some (.lst (as.map cA)),none,none,none])
  (λ_ ρ=>∃x3 x4,ρ=[some (.obj 4 [] []),some (.lst ns),some (.lst (as.map cA)),x3,x4,none]) ⟨none,none,rfl⟩ (by
   rintro pre d post ρ e ⟨x3,x4,rfl⟩
   obtain⟨x,hx,rfl⟩:=qh (LV e)
   rw[c9]at hx
   obtain⟨a,ha,rfl⟩:=il.mp hx
   have hr:=RY (h.right a (fw.mpr ⟨_,ha⟩))
   refine⟨_,_,rfl,.inl ?_,some (.int (0+pre.length:Nat)),some (cA a),rfl⟩
   unfold jP
   rw[←hn]at hr
   clear hp hl hn hJ h
   walk_at "mir")
 have hz:(hR p).length=many:=by simp[hR,hl]
 have Vy:¬((as.length:Int) > 120):=by omega
 rw[←hn]at hp hz
 have l1:∀ds:List D,n9 [.lst ds]=some (.lst ds):=λ_=>rfl
 have s1:kM [4] "names" (eN n9 (aCons (eV 1) aNil)) [some (D.obj 4 [] []),some (.lst ns),some (.lst (as.map cA)),x3,x4,some (.lst (hR p))]=some (.nx [some (D.obj 4 ["names"] [.lst ns]),some (.lst ns),some (.lst (as.map cA)),x3,x4,some (.lst (hR p))]):=rfl
 have s2:kM [4] "arrows" (eN n9 (aCons (eV 2) aNil)) [some (D.obj 4 ["names"] [.lst ns]),some (.lst ns),some (.lst (as.map cA)),x3,x4,some (.lst (hR p))]=some (.nx [some (cN ns as),some (.lst ns),some (.lst (as.map cA)),x3,x4,some (.lst (hR p))]):=rfl
 clear h hJ hl hn
 unfold ez zD
 walk_at "mir"
theorem L7 (ns:List Int)(i:Int)(hi:0<=i):∃c,gu [.lst (ns.map .int),.int i]=some (.int c):=by
 obtain⟨k,rfl⟩:∃k:Nat,i=k:=⟨i.toNat,by omega⟩
 unfold gu
 by_cases h:k<ns.length
 ·refine⟨ns[k],?_⟩
  have:dY (.lst (ns.map .int)) (.int (k:Int))=some (.int ns[k]):=Sn D.int (.inl rfl) (by simp[h])
  walk_at "mir"
 ·refine⟨0,?_⟩
  walk_at "mir"
theorem jb (c:Int){k:Int}(h0:0<=k)(h1:k<=1000000):∃r:Nat,et [.int c,.int k]=some (.int (r:Int))/\r<2147483648:=by
 have m0:ig (.int 31) (.int k)=some (.int (31*k)):=jj (by decide) (by decide)
 have s0:vK (.int c) (.int (64+31*k))=some (.int (c/2 ^ (64+31*k).toNat)):=jw (by omega)
 have fin:∀z:Int,∀m:Int,0<m->m<=2147483648->∃r:Nat,(some (D.int (z%m)):Option D)=some (.int (r:Int))/\r<2147483648:=λz m hm D5=>by
  have a1:=jK z (by omega:m≠0)
  have a2:=ik z hm
  exact⟨(z%m).toNat,by rw[gY a1],by omega⟩
 generalize hn:(c+7919*k+1)*48271%2147483647=n1
 have b1:0<=n1/\n1<2147483647:=by omega
 have m1:ig (.int 7919) (.int k)=some (.int (7919*k)):=jj (by decide) (by decide)
 have m2:ig (.int (c+7919*k+1)) (.int 48271)=some (.int ((c+7919*k+1)*48271)):=zaj (by decide) (by decide)
 have m3:ig (.int n1) (.int (n1/1009+69621))=some (.int (n1*(n1/1009+69621))):=jj (by omega) (by omega)
 generalize Ax:n1*(n1/1009+69621)%2147483647=n2
 have b2:0<=n2/\n2<2147483647:=by omega
 have m4:ig (.int n2) (.int (n2/1013+16807))=some (.int (n2*(n2/1013+16807))):=jj (by omega) (by omega)
 unfold et
 by_cases hr:(1237940039285380274899124224:Int)<=c
 ·by_cases hs:c/2 ^ (64+31*k).toNat > 0
  ·obtain⟨r,e1,e2⟩:=fin (c/2 ^ (64+31*k).toNat) 2147483648 (by decide) (by decide)
   refine⟨r,?_,e2⟩
   rw[←e1]
   generalize c/2 ^ (64+31*k).toNat=q at s0 hs
   clear e1 e2 fin hn Ax b1 b2 h0 h1
   walk_at "mir"
  ·obtain⟨r,e1,e2⟩:=fin (n2*(n2/1013+16807)) 2147483647 (by decide) (by decide)
   refine⟨r,?_,e2⟩
   rw[←e1]
   generalize c/2 ^ (64+31*k).toNat=q at s0 hs
   clear e1 e2 fin b1 b2 h0 h1
   walk_at "mir"
 ·obtain⟨r,e1,e2⟩:=fin (n2*(n2/1013+16807)) 2147483647 (by decide) (by decide)
  refine⟨r,?_,e2⟩
  rw[←e1]
  clear e1 e2 fin b1 b2 h0 h1 s0
  walk_at "mir"
noncomputable def vC (c k:Int):Nat:=match et [.int c,.int k]with
 |some (.int r)=>r.toNat
 |_=>0
theorem R3 (c:Int){k:Int}(h0:0<=k)(h1:k<=1000000):et [.int c,.int k]=some (.int (vC c k:Int))/\vC c k<2147483648:=by
 obtain⟨r,h,hr⟩:=jb c h0 h1
 unfold vC
 rw[h]
 simpa using hr
theorem C7 (a b c d:Int)(k:Int):∃x,atI [D.int a,D.int b,D.int c,D.int d] (k%4)=some (.int x)/\(x=a\/x=b\/x=c\/x=d):=by
 have:k%4=0\/k%4=1\/k%4=2\/k%4=3:=by omega
 rcases this with h|h|h|h<;>rw[h]
 ·exact⟨a,rfl,.inl rfl⟩
 ·exact⟨b,rfl,.inr (.inl rfl)⟩
 ·exact⟨c,rfl,.inr (.inr (.inl rfl))⟩
 ·exact⟨d,rfl,.inr (.inr (.inr rfl))⟩
theorem JX {α:Type}(f:α->Bool):∀xs:List α,lR (xs.map λx=>D.bl (f x))=some (xs.map f)
 |[]=>rfl
 |x::xs=>by
  show(lR (xs.map λx=>D.bl (f x))).bind _=_
  rw[JX f xs]
  rfl
theorem all_map (f:α->Bool)(xs:List α):kW [.lst (xs.map λx=>D.bl (f x))]=some (.bl (xs.all f)):=by
 show(lR _).bind _=_
 rw[JX]
 show some (D.bl ((xs.map f).all id))=_
 rw[List.all_map]
 rfl
noncomputable def bO (ws:List Str):D:=.lst (ws.map D.str)
theorem JY:∀ys:List Str,oh (ys.map .str)=some ys
 |[]=>rfl
 |y::ys=>by
  show(oh (ys.map .str)).bind _=_
  rw[JY ys];rfl
theorem DF {b:Nat}:∀{ys:List Str},(∀y∈ys,y.length<=b)->(ys.map (·.length)).sum<=ys.length*b
 |[],_=>by simp
 |y::ys,h=>by
  have h1:=h y bF
  have h2:=DF (b:=b) (ys:=ys) λz hz=>h z (bJ _ hz)
  rw[cn,Af,bM,sO]
  omega
theorem jy (sp:Str):∀ys:List Str,(Str.join sp ys).length<=(ys.map (·.length)).sum+ys.length*sp.length
 |[]=>by unfold Str.join;exact eY _
 |[y]=>by unfold Str.join;simp
 |y::z::ys=>by
  have ih:=jy sp (z::ys)
  unfold Str.join
  rw[yq,yq]
  simp only[cn,Af,bM]at ih ⊢
  rw[sO]
  omega
theorem EX {sp:Str}(hs:cx.strOk sp=true):∀{ys:List Str},(∀y∈ys,cx.strOk y=true)->cx.strOk (Str.join sp ys)=true
 |[],_=>by unfold Str.join;decide +kernel
 |[y],h=>by unfold Str.join;exact h y bF
 |y::z::ys,h=>by
  have ih:=EX hs (ys:=z::ys) λx hx=>h x (bJ _ hx)
  unfold Str.join
  exact LY (LY (h y bF) hs) ih
theorem DG {sp:Str}{ys:List Str}{b:Nat}(h:∀y∈ys,y.length<=b)(hb:ys.length*b+ys.length*sp.length<=16777216):iJ (.str sp) (bO ys)=some (.str (Str.join sp ys)):=by
 show(oh (ys.map .str)).bind _=_
 rw[JY]
 show(if _ then _ else _)=_
 rw[if_pos (by have:=DF h;omega)]
noncomputable def de (c:Nat):Str:=⟨#[c]⟩
theorem zX:(" ":Str)=de 32:=by decide +kernel
theorem Mm:("\n":Str)=de 10:=by decide +kernel
noncomputable def pV (c:Nat)(w:Str):Prop:=c∉w.cps.toList
theorem Ly {c:Nat}:∀{a b X Y:List Nat},c∉a->c∉b->a++c::X=b++c::Y->a=b/\X=Y
 |[],[],X,Y,_,_,h=>by simpa using h
 |[],y::b,X,Y,_,hb,h=>by
  have:c=y:=by simpa using(List.cons.inj h).1
  exact absurd (by rw[this];exact bF) hb
 |x::a,[],X,Y,ha,_,h=>by
  have:x=c:=by simpa using(List.cons.inj h).1
  exact absurd (by rw[this];exact bF) ha
 |x::a,y::b,X,Y,ha,hb,h=>by
  obtain⟨e,h2⟩:=List.cons.inj h
  subst e
  obtain⟨e1,e2⟩:=Ly (λz=>ha (bJ _ z)) (λz=>hb (bJ _ z)) h2
  exact⟨by rw[e1],e2⟩
theorem wg {x y:Str}(h:x.cps.toList=y.cps.toList):x=y:=by
 obtain⟨a⟩:=x
 obtain⟨b⟩:=y
 exact congrArg Str.mk (vP.mp h)
theorem xn (x y:Str):(x++y).cps.toList=x.cps.toList++y.cps.toList:=by
 show(x.cps++y.cps).toList=_
 simp
theorem join_list (c:Nat)(a b:Str)(r:List Str):(Str.join (de c) (a::b::r)).cps.toList=a.cps.toList++c::(Str.join (de c) (b::r)).cps.toList:=by
 rw[show Str.join (de c) (a::b::r)=a++de c++Str.join (de c) (b::r)from rfl,xn,xn]
 simp[de]
theorem KP {c:Nat}:∀{ws us:List Str},ws≠[]->us≠[]->(∀w∈ws,pV c w)->(∀w∈us,pV c w)->Str.join (de c) ws=Str.join (de c) us->ws=us
 |[],_,h,_,_,_,_=>absurd rfl h
 |_::_,[],_,h,_,_,_=>absurd rfl h
 |[a],[b],_,_,_,_,h=>by
  have h:a=b:=h
  rw[h]
 |[a],b::b'::r,_,_,ha,_,h=>by
  have e:=congrArg (λx:Str=>x.cps.toList) h
  rw[join_list]at e
  have e:a.cps.toList=_:=e
  exact absurd (by rw[e];simp) (ha a bF)
 |a::a'::r,[b],_,_,_,hb,h=>by
  have e:=congrArg (λx:Str=>x.cps.toList) h
  rw[join_list]at e
  have e:_=b.cps.toList:=e
  exact absurd (by rw[←e];simp) (hb b bF)
 |a::a'::r,b::b'::r',_,_,ha,hb,h=>by
  have e:=congrArg (λx:Str=>x.cps.toList) h
  rw[join_list,join_list]at e
  obtain⟨e1,e2⟩:=Ly (ha a bF) (hb b bF) e
  have:=KP (ws:=a'::r) (us:=b'::r') (by simp) (by simp) (λw hw=>ha w (bJ _ hw)) (λw hw=>hb w (bJ _ hw)) (wg e2)
  rw[wg e1,this]
theorem Q7 (x y:Str):Txt.split x y≠[]:=by
 unfold Txt.split
 split
 ·simp
 ·split
  ·simp
  ·intro h
   have:=congrArg sW h
   rw[PyProof.Rows.len_partsBetween]at this
   simp at this
variable {ws:List Str}
theorem Pu {c:Nat}(h:ws≠[])(hf:∀w∈ws,pV c w):Txt.split (Str.join (de c) ws) (de c)=ws :=
 KP (Q7 _ _) h (StrLaws.split_free _ c) hf (StrLaws.join_split _ _)
theorem SI {c:Nat}{b:Nat}(h:ws≠[])(hf:∀w∈ws,pV c w)(hb:∀w∈ws,w.length<=b)(hz:ws.length*b+ws.length<=16777216):rA (.str (Str.join (de c) ws)) (.str (de c))=some (bO ws):=by
 show(if _ then _ else _)=_
 rw[Pu h hf,if_pos]
 ·rfl
 ·refine⟨rfl,?_,by omega⟩
  have h1:=jy (de c) ws
  have h2:=DF hb
  have:(de c).length=1:=rfl
  rw[this,Nat.mul_one]at h1
  omega
theorem Fe (a c:Nat):vA (.str (de a)) (.str (de c))=some (.bl (decide (a<=c))):=by
 show some (D.bl (!(decide ([c] < [a]))))=_
 have:decide (([c]:List Nat) < [a])=decide (c<a):=by
  by_cases h:c<a
  ·rw[decide_eq_true h]
   exact decide_eq_true (show([c]:List Nat) < [a]from List.Lex.rel h)
  ·rw[decide_eq_false h,decide_eq_false]
   intro z
   cases z with
   |rel q=>exact h q
   |cons q=>cases q
 rw[this]
 by_cases h:c<a
 ·rw[decide_eq_true h,decide_eq_false (by omega)];rfl
 ·rw[decide_eq_false h,decide_eq_true (by omega)];rfl
theorem Ki (c:Nat):iW [.str (de c)]=some (.bl (decide (97<=c/\c<=122))):=by
 have h1:=Fe 97 c
 have h2:=Fe c 122
 have e1:("a":Str)=de 97:=by decide +kernel
 have e2:("z":Str)=de 122:=by decide +kernel
 unfold iW
 rw[e1,e2]
 by_cases k1:97<=c
 ·by_cases k2:c<=122
  ·rw[decide_eq_true ⟨k1,k2⟩]
   rw[decide_eq_true k1]at h1
   rw[decide_eq_true k2]at h2
   clear e1 e2 k1 k2
   walk_at "mir"
  ·rw[decide_eq_false λz=>k2 z.2]
   rw[decide_eq_true k1]at h1
   rw[decide_eq_false k2]at h2
   clear e1 e2 k1 k2
   walk_at "mir"
 ·rw[decide_eq_false λz=>k1 z.1]
  rw[decide_eq_false k1]at h1
  clear e1 e2 k1 h2
  walk_at "mir"
theorem Kj (c:Nat):iV [.str (de c)]=some (.bl (decide (48<=c/\c<=57))):=by
 have h1:=Fe 48 c
 have h2:=Fe c 57
 have e1:("0":Str)=de 48:=by decide +kernel
 have e2:("9":Str)=de 57:=by decide +kernel
 unfold iV
 rw[e1,e2]
 by_cases k1:48<=c
 ·by_cases k2:c<=57
  ·rw[decide_eq_true ⟨k1,k2⟩]
   rw[decide_eq_true k1]at h1
   rw[decide_eq_true k2]at h2
   clear e1 e2 k1 k2
   walk_at "mir"
  ·rw[decide_eq_false λz=>k2 z.2]
   rw[decide_eq_true k1]at h1
   rw[decide_eq_false k2]at h2
   clear e1 e2 k1 k2
   walk_at "mir"
 ·rw[decide_eq_false λz=>k1 z.1]
  rw[decide_eq_false k1]at h1
  clear e1 e2 k1 h2
  walk_at "mir"
noncomputable def Be (c:Nat):Bool:=decide (97<=c/\c<=122)
noncomputable def Fx (c:Nat):Bool:=decide (48<=c/\c<=57)
theorem vo (w:Str):w.cps.toList.length=w.length:=eP
theorem Kk {x:Str}(h:x.length<=16777216):eO [.str x]=some (.int (x.length:Int)):=by
 show(if x.length<=16777216 then some (D.int x.length)else none)=_
 rw[if_pos h]
variable {w:Str}
theorem rc {c:Nat}{r:List Nat}(h:w.cps.toList=c::r)(hl:w.length<=100):dY (.str w) (.int 0)=some (.str (de c)):=by
 show(if w.length<=16777216 then(atI w.cps.toList 0).bind λc=>some (D.str ⟨#[c]⟩)else none)=_
 rw[if_pos (by omega),h,show atI (c::r) 0=some c from yp (xs:=c::r) (j:=0) rfl]
 rfl
noncomputable def xA (w:Str):Bool:=match w.cps.toList with
 |[]=>false
 |c::r=>decide (r.length<8)&&Be c&&r.all λc=>Be c || Fx c
theorem Qd (h:xA w=true):jN [.str w]=some (.bl true):=by
 unfold xA at h
 cases hw:w.cps.toList with
 |nil=>rw[hw]at h;cases h
 |cons c r=>
  rw[hw]at h
  dsimp only at h
  rw[cw,cw]at h
  obtain⟨⟨h1,h2⟩,h3⟩:=h
  have h1:r.length<8:=of_decide_eq_true h1
  have hl:=vo w
  rw[hw,bM]at hl
  have l1:=Kk (x:=w) (by omega)
  have x0:=rc hw (by omega)
  have t0:=Ki c
  rw[show decide (97<=c/\c<=122)=true from h2]at t0
  have i1:pf "str" (.str w)=some (.bl true):=rfl
  have a1:eN kW (aCons km aNil) [some (.str w)]=some (.bl true):=by
   have:km [some (.str w)]=some (.lst ((c::r).map λ_=>D.bl true)):=by
    refine xm (λc=>D.str (de c)) (λ_=>D.bl true) (c::r) ?_ (by simp;omega) λx hx=>⟨_,rfl,?_⟩
    ·show some (pI w)=_
     unfold pI
     rw[hw];rfl
    ·have k1:=Ki x
     have k2:=Kj x
     by_cases q:97<=x/\x<=122
     ·rw[decide_eq_true q]at k1
      clear k2 q
      walk_at "mir"
     ·rw[decide_eq_false q]at k1
      have:48<=x/\x<=57:=by
       rcases bL.mp hx with rfl|hx
       ·exact absurd (of_decide_eq_true h2) q
       ·have:=fS.mp h3 x hx
        rw[jE]at this
        rcases this with z|z
        ·exact absurd (of_decide_eq_true z) q
        ·exact of_decide_eq_true z
      rw[decide_eq_true this]at k2
      clear q this
      walk_at "mir"
   unfold eN aCons
   rw[this]
   show kW [.lst ((c::r).map λ_=>D.bl true)]=_
   rw[all_map]
   simp
  have c1:¬(w.length:Int)<1:=by omega
  have c2:¬(w.length:Int) > 8:=by omega
  generalize (w.length:Int)=wl at *
  unfold jN
  generalize eN kW (aCons km aNil)=AA at *
  clear h1 h2 h3 hl hw
  walk_at "mir"
theorem jz (n:Nat):(cE (n:Int)).cps.toList=(Nat.toDigits 10 n).map Char.toNat:=by
 unfold cE
 rw[Str.ofString_eq_toList]
 have:(toString (n:Int):String)=Nat.repr n:=rfl
 rw[this]
 unfold Nat.repr
 rw[String.toList_ofList]
theorem Hx {n:Nat}{x:Nat}(h:x∈(cE (n:Int)).cps.toList):48<=x/\x<=57:=by
 rw[jz]at h
 obtain⟨c,hc,rfl⟩:=dJ.mp h
 have:=Nat.isDigit_of_mem_toDigits (b:=10) (by decide) (by decide) hc
 unfold Char.isDigit at this
 simp at this
 exact⟨this.1,this.2⟩
theorem qv {c n:Nat}(h:c<48):pV c (cE (n:Int)):=λz=>by have:=Hx z;omega
theorem Q8:∀(n:Nat),1<=n->∃c r,Nat.toDigits 10 n=c::r/\c≠'0':=by
 intro n
 induction n using Nat.strongRecOn with
 |_ n ih=>
  intro h
  by_cases D1:n<10
  ·rw[Nat.toDigits_of_lt_base D1]
   have:∀m,m<10->1<=m->m.digitChar≠'0':=by decide
   exact⟨_,_,rfl,this n D1 h⟩
  ·rw[Nat.toDigits_of_base_le (by decide) (by omega)]
   obtain⟨c,r,e,hc⟩:=ih (n/10) (by omega) (by omega)
   rw[e]
   exact⟨c,_,rfl,hc⟩
theorem xl {n:Nat}(h:n<10000000000):(cE (n:Int)).length<=10:=by
 rw[←vo,jz,bN]
 exact(Nat.length_toDigits_le_iff (by decide) (by decide)).mpr (by omega)
theorem Q9:cE ((0:Nat):Int) = "0":=by decide +kernel
theorem uw {n:Nat}(h:n<10000000000):fV [.str (cE (n:Int))]=some (.bl true):=by
 have hl:=xl h
 have l1:=Kk (x:=cE (n:Int)) (by omega)
 have CJ:1<=(cE (n:Int)).length:=by
  rw[←vo,jz,bN]
  exact Nat.length_toDigits_pos
 have a1:eN kW (aCons gX aNil) [some (.str (cE (n:Int)))]=some (.bl true):=by
  have:gX [some (.str (cE (n:Int)))]=some (.lst ((cE (n:Int)).cps.toList.map λ_=>D.bl true)):=by
   refine xm (λc=>D.str (de c)) (λ_=>D.bl true) _ rfl (by rw[vo];omega) λx hx=>⟨_,rfl,?_⟩
   have k2:=Kj x
   rw[decide_eq_true (Hx hx)]at k2
   clear hx l1
   walk_at "mir"
  unfold eN aCons
  rw[this]
  show kW [.lst ((cE (n:Int)).cps.toList.map λ_=>D.bl true)]=_
  rw[all_map]
  simp
 have c1:¬((cE (n:Int)).length:Int)<1:=by omega
 have c2:¬((cE (n:Int)).length:Int) > 15:=by omega
 by_cases h0:n=0
 ·subst h0
  rw[Q9]at *
  have e1:fR false (.str "0") (.str "0")=some (.bl true):=(xb (yo _) (yo _)).trans (by simp)
  generalize (("0":Str).length:Int)=wl at *
  unfold fV
  generalize eN kW (aCons gX aNil)=AA at *
  clear hl CJ h
  walk_at "mir"
 ·obtain⟨c,r,e,hc⟩:=Q8 n (by omega)
  have hw:(cE (n:Int)).cps.toList=c.toNat::r.map Char.toNat:=by rw[jz,e];rfl
  have x0:=rc hw (by omega)
  have ne:¬de c.toNat = "0":=λz=>by
   have z:de c.toNat=de 48:=z.trans (by decide +kernel)
   have z:c.toNat=48:=by simpa[de]using z
   exact hc (Char.ext (UInt32.toNat_inj.mp z))
  have e2:fR true (.str (de c.toNat)) (.str "0")=some (.bl true):=by
   have hk:cx.strOk (de c.toNat)=true:=by
    have:=Hx (n:=n) (x:=c.toNat) (by rw[hw];exact bF)
    unfold cx.strOk de
    simp
    omega
   rw[xb hk (yo _),decide_eq_false ne];rfl
  obtain⟨bb,e1⟩:∃bb,fR false (.str (cE (n:Int))) (.str "0")=some (.bl bb):=⟨_,xb (HW _) (yo _)⟩
  generalize ((cE (n:Int)).length:Int)=wl at *
  generalize cE (n:Int)=w at *
  unfold fV
  generalize eN kW (aCons gX aNil)=AA at *
  clear hl CJ h h0 e hc hw ne
  cases bb
  ·walk_at "mir"
  ·walk_at "mir"
theorem zY {n:Nat}(h:n<10000000000):kK [.str (cE (n:Int))]=some (.int (n:Int)):=by
 show(if(cE (n:Int)).length<=640 then(PySem.intText? (cE (n:Int))).bind λi=>some (D.int i)else none)=_
 have:=xl h
 rw[if_pos (by omega),show PySem.intText? (cE (n:Int))=some (n:Int)from PySem.W.KIN.num_reads (by omega) (by omega)]
 rfl
theorem qw (hl:ws.length<=1000)(h:∀w∈ws,fV [.str w]=some (.bl true)):gr [bO ws]=some (.bl true):=by
 have a1:eN kW (aCons g0 aNil) [some (bO ws)]=some (.bl true):=by
  have:g0 [some (bO ws)]=some (.lst (ws.map λ_=>D.bl true)):=by
   refine xm D.str (λ_=>D.bl true) ws rfl (by omega) λw hw=>⟨_,rfl,?_⟩
   have:=h w hw
   clear h
   walk_at "mir"
  unfold eN aCons
  rw[this]
  show kW [.lst (ws.map λ_=>D.bl true)]=_
  rw[all_map]
  simp
 generalize bO ws=L at *
 unfold gr
 generalize eN kW (aCons g0 aNil)=AA at *
 clear h hl
 walk_at "mir"
noncomputable def eK:Kd->Str
 |.ride=>"ride" |.wait=>"wait" |.back=>"back"
theorem DH (k:Kd):cx.strOk (eK k)=true:=by cases k<;>exact yo _
theorem EZ (neg:Bool)(k j:Kd):fR neg (.str (eK k)) (.str (eK j))=some (.bl (if neg then !decide (k=j)else decide (k=j))):=by
 rw[xb (DH k) (DH j)]
 have:decide (eK k=eK j)=decide (k=j):=by cases k<;>cases j<;>decide
 rw[this]
theorem Ra (k:Kd):fR false (.str (eK k)) (.str "line")=some (.bl false):=by
 rw[xb (DH k) (yo _)]
 have:¬eK k = "line":=by cases k<;>decide +kernel
 rw[decide_eq_false this];rfl
theorem Hu (k:Kd):fR false (.str "line") (.str (eK k))=some (.bl false):=by
 rw[xb (yo _) (DH k)]
 have:¬"line"=eK k:=by cases k<;>decide +kernel
 rw[decide_eq_false this];rfl
structure gD (names:List Str):Prop where
 nd:names.Nodup
 ok:∀x∈names,xA x=true
 le:names.length<=40
theorem jc (h:xA w=true):1<=w.length/\w.length<=8:=by
 unfold xA at h
 rw[←vo]
 cases hw:w.cps.toList with
 |nil=>rw[hw]at h;cases h
 |cons c r=>
  rw[hw]at h
  dsimp only at h
  rw[cw,cw]at h
  have:=of_decide_eq_true h.1.1
  rw[bM];omega
theorem Lz (h:xA w=true){x:Nat}(hx:x∈w.cps.toList):48<=x/\x<=122:=by
 unfold xA at h
 cases hw:w.cps.toList with
 |nil=>rw[hw]at hx;cases hx
 |cons c r=>
  rw[hw]at h hx
  dsimp only at h
  rw[cw,cw]at h
  rcases bL.mp hx with rfl|hx
  ·have:=of_decide_eq_true (p:=97<=x/\x<=122) h.1.2;omega
  ·have:=fS.mp h.2 x hx
   rw[jE]at this
   rcases this with z|z
   ·have:=of_decide_eq_true (p:=97<=x/\x<=122) z;omega
   ·have:=of_decide_eq_true (p:=48<=x/\x<=57) z;omega
theorem EY (h:xA w=true){c:Nat}(hc:c<48):pV c w:=λz=>by have:=Lz h z;omega
theorem HZ (h:xA w=true):cx.strOk w=true:=by
 unfold cx.strOk
 rw[←vO,fS]
 intro x hx
 have:=Lz h hx
 rw[decide_eq_true_iff]
 omega
noncomputable def cu (names:List Str)(i:Nat):Str:=names.getD i ""
variable {names:List Str}
theorem xy {i:Nat}(h:i<names.length):cu names i∈names:=by
 unfold cu
 rw[dM,cz h]
 exact ot h
theorem DN {i:Nat}(h:i<names.length):dY (bO names) (.int (i:Int))=some (.str (cu names i)):=yp (by
 unfold cu
 rw[c9,cz h,dM,cz h];rfl)
theorem K7 (ws:List Str):(ws.map D.str).all D.sc=true:=by
 rw[List.all_map]
 exact fS.mpr λx _=>rfl
theorem Hv (nd:names.Nodup){i:Nat}(h:i<names.length):uZ (bO names) (.str (cu names i))=some (.int (i:Int)):=by
 have hf:(names.map D.str).findIdx? (λy=>Ci y (.str (cu names i)))=some i:=by
  rw[List.findIdx?_map]
  have e:cu names i=names[i]:=by
   unfold cu
   rw[dM,cz h];rfl
  rw[e,ny]
  refine⟨h,?_,λj hj=>?_⟩
  ·show(names[i]==names[i])=true
   exact beq_self_eq_true _
  ·have Nw:j<names.length:=by omega
   have:names[j]≠names[i]:=λz=>by
    have:=(kT (xs:=names) (h₀:=Nw) (h₁:=h) nd).mp z
    omega
   show¬(names[j]==names[i])=true
   rw[beq_iff_eq]
   exact this
 show(if _ then _ else _)=_
 rw[if_pos ⟨rfl,K7 names⟩,hf]
 rfl
theorem SJ {x:Str}(h:x∈names):inD true (.str x) (bO names)=some (.bl false):=by
 have hi:xX (.str x) (names.map D.str)=true:=by
  unfold xX
  rw[List.any_map,wD]
  exact⟨x,h,beq_self_eq_true x⟩
 show(if _ then _ else _)=_
 rw[if_pos ⟨rfl,K7 names⟩,hi]
 rfl
theorem Rb {told:List Str}(h:∀x∈told,x∈names):eT [bO told,bO names]=some .non:=by
 obtain⟨ρ',h1,x2,rfl⟩:=Hq (g:=gV 2) (b:=fY) (ds:=told.map D.str) (ρ:=[some (bO told),some (bO names),none])
  (λ_ ρ=>∃x2:Option D,ρ=[some (bO told),some (bO names),x2]) ⟨none,rfl⟩ (by
   rintro pre d post ρ e ⟨x2,rfl⟩
   have hx:=LV e
   rw[c9]at hx
   obtain⟨x,A8,rfl⟩:=il.mp hx
   have n1:=SJ (h x (fw.mpr ⟨_,A8⟩))
   refine⟨_,_,rfl,.inl ?_,some (.str x),rfl⟩
   generalize bO told=T,bO names=N at *
   unfold fY
   clear h hx A8 e
   walk_at "mir")
 have ls:lsD (eV 0) [some (bO told),some (bO names),none]=some (told.map D.str):=rfl
 generalize bO told=T,bO names=N at *
 unfold eT mOf startD
 show((sFor (lsD (eV 0)) (gV 2) fY) [some T,some N,none]).bind _=_
 unfold sFor
 rw[ls,dO,h1]
 rfl
structure Wr (n:Nat)(a:gQ):Prop where
 s:a.s<n
 g:a.g<n
 t0:0<=a.t
 t1:a.t<=1000000000
 b:a.b<=4
 r:a.c=.ride->a.b=0
noncomputable def nq (names:List Str)(a:gQ):List Str:=[eK a.c,cu names a.s,cu names a.g,cE a.t]++(if a.c=.ride then[]else[cE (a.b:Int)])
structure rX (names ws:List Str)(as:List gQ):Prop where
 ne:ws≠[]
 f32:∀w∈ws,pV 32 w
 Vt:∀w∈ws,pV 10 w
 wl:∀w∈ws,w.length<=12
 len:ws.length<=40
 form:ef [bO ws]=some (.bl true)
 told:∃told,eZ [bO ws]=some (bO told)/\∀x∈told,x∈names
 arr:eo [bO ws,bO names]=some (.lst (as.map cA))
theorem SK (k:Kd){c:Nat}(hc:c<48):pV c (eK k):=λz=>by
 have:∀x∈(eK k).cps.toList,48<=x:=by cases k<;>decide +kernel
 have:=this c z
 omega
theorem K8 (k:Kd):(eK k).length=4:=by cases k<;>decide +kernel
theorem xz (hn:gD names)(h:Wr names.length a)(hw:w∈nq names a):(∀c,c<48->pV c w)/\w.length<=12/\cx.strOk w=true:=by
 obtain⟨t,ht⟩:∃t:Nat,a.t=(t:Int):=⟨a.t.toNat,by have:=h.t0;omega⟩
 have t1:=h.t1
 have hb:=h.b
 have n1:=hn.ok _ (xy h.s)
 have n2:=hn.ok _ (xy h.g)
 have VJ:=jc n1
 have VL:=jc n2
 unfold nq at hw
 rw[ht]at hw t1
 have e4:=xl (n:=t) (by omega)
 have e5:=xl (n:=a.b) (by omega)
 rcases cL.mp hw with hw|hw
 ·simp only[bL,cH,or_false]at hw
  rcases hw with rfl|rfl|rfl|rfl
  ·exact⟨λc hc=>SK _ hc,by rw[K8];omega,DH _⟩
  ·exact⟨λc hc=>EY n1 hc,by omega,HZ n1⟩
  ·exact⟨λc hc=>EY n2 hc,by omega,HZ n2⟩
  ·exact⟨λc hc=>qv hc,by omega,HW _⟩
 ·by_cases hc:a.c=.ride
  ·rw[if_pos hc]at hw;cases hw
  ·rw[if_neg hc,cj]at hw
   subst hw
   exact⟨λc hc=>qv hc,by omega,HW _⟩
theorem LB (hn:gD names)(h:Wr names.length a):rX names (nq names a) [a]:=by
 obtain⟨t,ht⟩:∃t:Nat,a.t=(t:Int):=⟨a.t.toNat,by have:=h.t0;omega⟩
 have t1:=h.t1
 have hb:=h.b
 have k1:=uw (n:=t) (by omega)
 have k2:=uw (n:=a.b) (by omega)
 have v1:=zY (n:=t) (by omega)
 have v2:=zY (n:=a.b) (by omega)
 have d1:=Hv hn.nd h.s
 have d2:=Hv hn.nd h.g
 have q1:=EZ false a.c .ride
 have q2:=EZ false a.c .wait
 have q3:=EZ false a.c .back
 have q4:=Ra a.c
 have wr:eK .ride = "ride":=rfl
 have ww:eK .wait = "wait":=rfl
 have wb:eK .back = "back":=rfl
 rw[if_neg (by decide),wr]at q1
 rw[if_neg (by decide),ww]at q2
 rw[if_neg (by decide),wb]at q3
 have m1:=xy h.s
 have m2:=xy h.g
 have mem:=λw hw=>xz (w:=w) hn h hw
 have r1:∀s g t:Int,gq 1 [.int s,.int g,.int t]=some (.obj 1 ["start","goal","time","behind"] [.int s,.int g,.int t,.int 0]):=λ_ _ _=>rfl
 have r2:∀s g t b:Int,gU 2 [.int s,.int g,.int t,.int b]=some (.obj 2 ["start","goal","time","behind"] [.int s,.int g,.int t,.int b]):=λ_ _ _ _=>rfl
 have r3:∀s g t b:Int,fI 3 [.int s,.int g,.int t,.int b]=some (.obj 3 ["start","goal","time","behind"] [.int s,.int g,.int t,.int b]):=λ_ _ _ _=>rfl
 have mM:∀rest:List D,cutD (D.str (eK a.c)::D.str (cu names a.s)::D.str (cu names a.g)::rest) (some 1) (some 3)=[D.str (cu names a.s),D.str (cu names a.g)]:=λrest=>by
  rw[show(1:Int)=((1:Nat):Int)from rfl,show(3:Int)=((3:Nat):Int)from rfl,KA];rfl
 obtain⟨c,s,g,tt,b⟩:=a
 dsimp only at *
 subst ht
 cases c with
 |ride=>
  have FI:=h.r rfl
  dsimp only at FI
  subst FI
  have ew:nq names ⟨.ride,s,g,(t:Int),0⟩=[eK .ride,cu names s,cu names g,cE (t:Int)]:=rfl
  rw[ew]at mem ⊢
  have ln:eO [bO [eK .ride,cu names s,cu names g,cE (t:Int)]]=some (.int 4):=rfl
  have x0:dY (bO [eK .ride,cu names s,cu names g,cE (t:Int)]) (.int 0)=some (.str (eK .ride)):=rfl
  have x1:dY (bO [eK .ride,cu names s,cu names g,cE (t:Int)]) (.int 1)=some (.str (cu names s)):=rfl
  have x2:dY (bO [eK .ride,cu names s,cu names g,cE (t:Int)]) (.int 2)=some (.str (cu names g)):=rfl
  have x3:dY (bO [eK .ride,cu names s,cu names g,cE (t:Int)]) (.int 3)=some (.str (cE (t:Int))):=rfl
  have sl:dP (bO [eK .ride,cu names s,cu names g,cE (t:Int)]) (some 1) (some 3)=some (bO [cu names s,cu names g]):=by
   show some (D.lst (cutD _ _ _))=_
   exact congrArg some (congrArg D.lst (mM _))
  rw[decide_eq_true rfl]at q1
  refine⟨by simp,λw hw=>(mem w hw).1 32 (by decide),λw hw=>(mem w hw).1 10 (by decide),λw hw=>(mem w hw).2.1,by simp,?_,⟨[cu names s,cu names g],?_,?_⟩,?_⟩
  ·generalize bO [eK .ride,cu names s,cu names g,cE (t:Int)]=L at *
   unfold ef
   clear mem mM h hn m1 m2 t1 hb wr ww wb q2 q3 q4 sl x1 x2
   walk_at "mir"
  ·generalize bO [eK .ride,cu names s,cu names g,cE (t:Int)]=L at *
   generalize bO [cu names s,cu names g]=L2 at *
   unfold eZ
   clear mem mM h hn m1 m2 t1 hb wr ww wb q2 q3 x1 x2 x3 k1 k2 v1 v2 d1 d2 r1 r2 r3
   walk_at "mir"
  ·intro x hx
   simp only[bL,cH,or_false]at hx
   rcases hx with rfl|rfl
   ·exact m1
   ·exact m2
  ·have ar:eE [bO [eK .ride,cu names s,cu names g,cE (t:Int)],bO names]=some (cA ⟨.ride,s,g,(t:Int),0⟩):=by
    show _=some (D.obj 1 ["start","goal","time","behind"] [.int (s:Int),.int (g:Int),.int (t:Int),.int 0])
    generalize bO [eK .ride,cu names s,cu names g,cE (t:Int)]=L,bO names=N at *
    unfold eE
    clear mem mM h hn m1 m2 t1 hb wr ww wb q2 q3 q4 sl k1 k2
    walk_at "mir"
   show _=some (D.lst [cA ⟨.ride,s,g,(t:Int),0⟩])
   generalize cA ⟨.ride,s,g,(t:Int),0⟩=ea,bO [eK .ride,cu names s,cu names g,cE (t:Int)]=L,bO names=N at *
   unfold eo
   clear mem mM h hn m1 m2 t1 hb wr ww wb q1 q2 q3 sl k1 k2 v1 v2 d1 d2 r1 r2 r3 x1 x2 x3
   walk_at "mir"
 |wait=>
  have ew:nq names ⟨.wait,s,g,(t:Int),b⟩=[eK .wait,cu names s,cu names g,cE (t:Int),cE (b:Int)]:=rfl
  rw[ew]at mem ⊢
  have ln:eO [bO [eK .wait,cu names s,cu names g,cE (t:Int),cE (b:Int)]]=some (.int 5):=rfl
  have x0:dY (bO [eK .wait,cu names s,cu names g,cE (t:Int),cE (b:Int)]) (.int 0)=some (.str (eK .wait)):=rfl
  have x1:dY (bO [eK .wait,cu names s,cu names g,cE (t:Int),cE (b:Int)]) (.int 1)=some (.str (cu names s)):=rfl
  have x2:dY (bO [eK .wait,cu names s,cu names g,cE (t:Int),cE (b:Int)]) (.int 2)=some (.str (cu names g)):=rfl
  have x3:dY (bO [eK .wait,cu names s,cu names g,cE (t:Int),cE (b:Int)]) (.int 3)=some (.str (cE (t:Int))):=rfl
  have x4:dY (bO [eK .wait,cu names s,cu names g,cE (t:Int),cE (b:Int)]) (.int 4)=some (.str (cE (b:Int))):=rfl
  have sl:dP (bO [eK .wait,cu names s,cu names g,cE (t:Int),cE (b:Int)]) (some 1) (some 3)=some (bO [cu names s,cu names g]):=by
   show some (D.lst (cutD _ _ _))=_
   exact congrArg some (congrArg D.lst (mM _))
  have s3:dP (bO [eK .wait,cu names s,cu names g,cE (t:Int),cE (b:Int)]) (some 3) none=some (bO [cE (t:Int),cE (b:Int)]):=by
   show some (D.lst (cutD _ (some ((3:Nat):Int)) none))=_
   rw[wn];rfl
  have nn:=qw (ws:=[cE (t:Int),cE (b:Int)]) (by simp) λw hw=>by
   simp only[bL,cH,or_false]at hw
   rcases hw with rfl|rfl
   ·exact k1
   ·exact k2
  rw[decide_eq_false (by decide)]at q1
  rw[decide_eq_true rfl]at q2
  refine⟨by simp,λw hw=>(mem w hw).1 32 (by decide),λw hw=>(mem w hw).1 10 (by decide),λw hw=>(mem w hw).2.1,by simp,?_,⟨[cu names s,cu names g],?_,?_⟩,?_⟩
  ·generalize bO [eK .wait,cu names s,cu names g,cE (t:Int),cE (b:Int)]=L at *
   generalize bO [cE (t:Int),cE (b:Int)]=L3 at *
   unfold ef
   clear mem mM h hn m1 m2 t1 hb wr ww wb q3 q4 sl x1 x2
   walk_at "mir"
  ·generalize bO [eK .wait,cu names s,cu names g,cE (t:Int),cE (b:Int)]=L at *
   generalize bO [cu names s,cu names g]=L2 at *
   unfold eZ
   clear mem mM h hn m1 m2 t1 hb wr ww wb q2 q3 x1 x2 x3 k1 k2 v1 v2 d1 d2 r1 r2 r3 nn s3
   walk_at "mir"
  ·intro x hx
   simp only[bL,cH,or_false]at hx
   rcases hx with rfl|rfl
   ·exact m1
   ·exact m2
  ·have ar:eE [bO [eK .wait,cu names s,cu names g,cE (t:Int),cE (b:Int)],bO names]=some (cA ⟨.wait,s,g,(t:Int),b⟩):=by
    show _=some (D.obj 2 ["start","goal","time","behind"] [.int (s:Int),.int (g:Int),.int (t:Int),.int (b:Int)])
    generalize bO [eK .wait,cu names s,cu names g,cE (t:Int),cE (b:Int)]=L,bO names=N at *
    unfold eE
    clear mem mM h hn m1 m2 t1 hb wr ww wb q3 q4 sl k1 k2 nn s3
    walk_at "mir"
   show _=some (D.lst [cA ⟨.wait,s,g,(t:Int),b⟩])
   generalize cA ⟨.wait,s,g,(t:Int),b⟩=ea,bO [eK .wait,cu names s,cu names g,cE (t:Int),cE (b:Int)]=L,bO names=N at *
   unfold eo
   clear mem mM h hn m1 m2 t1 hb wr ww wb q1 q2 q3 sl k1 k2 v1 v2 d1 d2 r1 r2 r3 x1 x2 x3 nn s3
   walk_at "mir"
 |back=>
  have ew:nq names ⟨.back,s,g,(t:Int),b⟩=[eK .back,cu names s,cu names g,cE (t:Int),cE (b:Int)]:=rfl
  rw[ew]at mem ⊢
  have ln:eO [bO [eK .back,cu names s,cu names g,cE (t:Int),cE (b:Int)]]=some (.int 5):=rfl
  have x0:dY (bO [eK .back,cu names s,cu names g,cE (t:Int),cE (b:Int)]) (.int 0)=some (.str (eK .back)):=rfl
  have x1:dY (bO [eK .back,cu names s,cu names g,cE (t:Int),cE (b:Int)]) (.int 1)=some (.str (cu names s)):=rfl
  have x2:dY (bO [eK .back,cu names s,cu names g,cE (t:Int),cE (b:Int)]) (.int 2)=some (.str (cu names g)):=rfl
  have x3:dY (bO [eK .back,cu names s,cu names g,cE (t:Int),cE (b:Int)]) (.int 3)=some (.str (cE (t:Int))):=rfl
  have x4:dY (bO [eK .back,cu names s,cu names g,cE (t:Int),cE (b:Int)]) (.int 4)=some (.str (cE (b:Int))):=rfl
  have sl:dP (bO [eK .back,cu names s,cu names g,cE (t:Int),cE (b:Int)]) (some 1) (some 3)=some (bO [cu names s,cu names g]):=by
   show some (D.lst (cutD _ _ _))=_
   exact congrArg some (congrArg D.lst (mM _))
  have s3:dP (bO [eK .back,cu names s,cu names g,cE (t:Int),cE (b:Int)]) (some 3) none=some (bO [cE (t:Int),cE (b:Int)]):=by
   show some (D.lst (cutD _ (some ((3:Nat):Int)) none))=_
   rw[wn];rfl
  have nn:=qw (ws:=[cE (t:Int),cE (b:Int)]) (by simp) λw hw=>by
   simp only[bL,cH,or_false]at hw
   rcases hw with rfl|rfl
   ·exact k1
   ·exact k2
  rw[decide_eq_false (by decide)]at q1 q2
  rw[decide_eq_true rfl]at q3
  refine⟨by simp,λw hw=>(mem w hw).1 32 (by decide),λw hw=>(mem w hw).1 10 (by decide),λw hw=>(mem w hw).2.1,by simp,?_,⟨[cu names s,cu names g],?_,?_⟩,?_⟩
  ·generalize bO [eK .back,cu names s,cu names g,cE (t:Int),cE (b:Int)]=L at *
   generalize bO [cE (t:Int),cE (b:Int)]=L3 at *
   unfold ef
   clear mem mM h hn m1 m2 t1 hb wr ww wb q4 sl x1 x2
   walk_at "mir"
  ·generalize bO [eK .back,cu names s,cu names g,cE (t:Int),cE (b:Int)]=L at *
   generalize bO [cu names s,cu names g]=L2 at *
   unfold eZ
   clear mem mM h hn m1 m2 t1 hb wr ww wb q2 q3 x1 x2 x3 k1 k2 v1 v2 d1 d2 r1 r2 r3 nn s3
   walk_at "mir"
  ·intro x hx
   simp only[bL,cH,or_false]at hx
   rcases hx with rfl|rfl
   ·exact m1
   ·exact m2
  ·have ar:eE [bO [eK .back,cu names s,cu names g,cE (t:Int),cE (b:Int)],bO names]=some (cA ⟨.back,s,g,(t:Int),b⟩):=by
    show _=some (D.obj 3 ["start","goal","time","behind"] [.int (s:Int),.int (g:Int),.int (t:Int),.int (b:Int)])
    generalize bO [eK .back,cu names s,cu names g,cE (t:Int),cE (b:Int)]=L,bO names=N at *
    unfold eE
    clear mem mM h hn m1 m2 t1 hb wr ww wb q3 q4 sl k1 k2 nn s3
    walk_at "mir"
   show _=some (D.lst [cA ⟨.back,s,g,(t:Int),b⟩])
   generalize cA ⟨.back,s,g,(t:Int),b⟩=ea,bO [eK .back,cu names s,cu names g,cE (t:Int),cE (b:Int)]=L,bO names=N at *
   unfold eo
   clear mem mM h hn m1 m2 t1 hb wr ww wb q1 q2 q3 sl k1 k2 v1 v2 d1 d2 r1 r2 r3 x1 x2 x3 nn s3
   walk_at "mir"
noncomputable def vN:List (Nat×Nat)->List (Nat×Nat×Nat)
 |p::q::r=>(p.1,q.1,p.2)::vN (q::r)
 |_=>[]
noncomputable def Bl (x:Nat×Nat×Nat):gQ:=⟨.ride,x.1,x.2.1,(x.2.2:Int),0⟩
noncomputable def xY (cZ:Nat)(p:Nat×Nat)(dW:List (Nat×Nat)):List gQ:=(vN (p::dW)).map Bl++[⟨.back,((p::dW).getLast (by simp)).1,p.1,(((p::dW).getLast (by simp)).2:Int),cZ⟩]
noncomputable def wA (names:List Str)(dW:List (Nat×Nat)):List Str:=dW.flatMap λp=>[cu names p.1,cE (p.2:Int)]
noncomputable def jI (names:List Str)(cZ:Nat)(dW:List (Nat×Nat)):List Str:="line"::cE (cZ:Int)::wA names dW
theorem Mn (names:List Str):∀dW:List (Nat×Nat),every2 (wA names dW)=dW.map λp=>cu names p.1
 |[]=>rfl
 |p::dW=>congrArg (cu names p.1::·) (Mn names dW)
theorem Mp (names:List Str):∀dW:List (Nat×Nat),every2 ((wA names dW).drop 1)=dW.map λp=>cE (p.2:Int)
 |[]=>rfl
 |[p]=>rfl
 |p::q::dW=>by
  show every2 (cE (p.2:Int)::cu names q.1::(wA names (q::dW)).drop 1)=_
  show cE (p.2:Int)::every2 ((wA names (q::dW)).drop 1)=_
  rw[Mp names (q::dW)]
  rfl
theorem Hy (names:List Str):∀dW:List (Nat×Nat),(wA names dW).length=2*dW.length
 |[]=>rfl
 |p::dW=>by
  show(wA names dW).length+1+1=_
  rw[Hy names dW,bM];omega
theorem K9:∀dW:List (Nat×Nat),iZ (dW.map λp=>D.int (p.1:Int)) ((dW.map λp=>D.int (p.1:Int)).drop 1) (dW.map λp=>D.int (p.2:Int))=(vN dW).map λx=>D.tup [.int (x.1:Int),.int (x.2.1:Int),.int (x.2.2:Int)]
 |[]=>rfl
 |[p]=>rfl
 |p::q::r=>by
  show D.tup _::iZ ((q::r).map λp=>D.int (p.1:Int)) (((q::r).map λp=>D.int (p.1:Int)).drop 1) ((q::r).map λp=>D.int (p.2:Int))=_
  rw[K9 (q::r)]
  rfl
theorem Hz:∀dW:List (Nat×Nat),(vN dW).length<=dW.length
 |[]=>eY _
 |[p]=>eY _
 |p::q::r=>by
  have:=Hz (q::r)
  show(vN (q::r)).length+1<=_
  simp only[bM]at this ⊢
  omega
theorem Kl (f:α->D)(x:α)(xs:List α):dY (.lst ((x::xs).map f)) (.int (-1))=some (f ((x::xs).getLast (by simp))):=by
 show atI ((x::xs).map f) (-1)=_
 unfold atI
 have:ixN ((x::xs).map f).length (-1)=some xs.length:=by
  unfold ixN
  rw[bN,bM,if_neg (by omega),if_pos (by omega)]
  congr 1
  omega
 rw[this,dO,c9,List.getLast_eq_getElem]
 simp
theorem Us {cZ:Nat}{p:Nat×Nat}{dW:List (Nat×Nat)}(hn:gD names)(hc:cZ<=4)(hl:dW.length<=15)(hs:∀q∈p::dW,q.1<names.length/\q.2<=1000000000):rX names (jI names cZ (p::dW)) (xY cZ p dW):=by
 have mem:∀w∈jI names cZ (p::dW),(∀c,c<48->pV c w)/\w.length<=12:=λw hw=>by
  rcases bL.mp hw with rfl|hw
  ·refine⟨λc hc z=>?_,by decide⟩
   have:∀x∈("line":Str).cps.toList,48<=x:=by decide +kernel
   have:=this c z
   omega
  ·rcases bL.mp hw with rfl|hw
   ·exact⟨λc hc=>qv hc,by have:=xl (n:=cZ) (by omega);omega⟩
   ·obtain⟨q,hq,hw⟩:=wG.mp hw
    have hq:=hs q hq
    simp only[bL,cH,or_false]at hw
    rcases hw with rfl|rfl
    ·have n1:=hn.ok _ (xy hq.1)
     have n2:=jc n1
     exact⟨λc hc=>EY n1 hc,by omega⟩
    ·exact⟨λc hc=>qv hc,by have:=xl (n:=q.2) (by omega);omega⟩
 have hJ:(jI names cZ (p::dW)).length=2*dW.length+4:=by
  show(wA names (p::dW)).length+1+1=_
  rw[Hy,bM];omega
 have ln:eO [bO (jI names cZ (p::dW))]=some (.int ((2*dW.length+4:Nat):Int)):=(xg _).trans (by rw[bN,hJ])
 have x0:dY (bO (jI names cZ (p::dW))) (.int 0)=some (.str "line"):=yp (xs:=(jI names cZ (p::dW)).map D.str) (j:=0) rfl
 have x1:dY (bO (jI names cZ (p::dW))) (.int 1)=some (.str (cE (cZ:Int))):=yp (xs:=(jI names cZ (p::dW)).map D.str) (j:=1) rfl
 have ls:∀r:L3.Env,r[0]?.join=some (bO (jI names cZ (p::dW)))->lsD (eV 0) r=some ((jI names cZ (p::dW)).map D.str):=λr hr=>by
  unfold lsD
  have:eV 0 r=some (bO (jI names cZ (p::dW))):=hr
  rw[this];rfl
 have e2:every2 (((jI names cZ (p::dW)).map D.str).drop 2)=((p::dW).map λq=>cu names q.1).map D.str:=by
  show every2 ((wA names (p::dW)).map D.str)=_
  rw[u5,Mn]
 have e3:every2 (((jI names cZ (p::dW)).map D.str).drop 3)=((p::dW).map λq=>cE (q.2:Int)).map D.str:=by
  show every2 (((wA names (p::dW)).map D.str).drop 1)=_
  rw[←Ad,u5,Mp]
 have q1:=Hu .ride
 have q2:=Hu .wait
 have q3:=Hu .back
 rw[show eK .ride = "ride" from rfl]at q1
 rw[show eK .wait = "wait" from rfl]at q2
 rw[show eK .back = "back" from rfl]at q3
 have q4:fR false (.str "line") (.str "line")=some (.bl true):=(xb (yo _) (yo _)).trans (by simp)
 refine⟨by unfold jI;simp,λw hw=>(mem w hw).1 32 (by decide),λw hw=>(mem w hw).1 10 (by decide),λw hw=>(mem w hw).2,by omega,?_,⟨(p::dW).map λq=>cu names q.1,?_,?_⟩,?_⟩
 ·have nn:=qw (ws:=cE (cZ:Int)::(p::dW).map λq=>cE (q.2:Int)) (by simp;omega) λw hw=>by
   rcases bL.mp hw with rfl|hw
   ·exact uw (by omega)
   ·obtain⟨q,hq,rfl⟩:=dJ.mp hw
    have:=hs q hq
    exact uw (by omega)
  have ad:cP (.lst [.str (cE (cZ:Int))]) (.lst (((p::dW).map λq=>cE (q.2:Int)).map D.str))=some (bO (cE (cZ:Int)::(p::dW).map λq=>cE (q.2:Int))):=yk (by simp;omega)
  have ge:((2*dW.length+4:Nat):Int) >= 4:=by omega
  have md:eU (.int ((2*dW.length+4:Nat):Int)) (.int 2)=some (.int 0):=by
   rw[yf (by omega)]
   congr 2
   omega
  have l0:Aq (bO (jI names cZ (p::dW)))=some ((jI names cZ (p::dW)).map D.str):=rfl
  generalize ((2*dW.length+4:Nat):Int)=wl,bO (cE (cZ:Int)::(p::dW).map λq=>cE (q.2:Int))=L3,((p::dW).map λq=>cE (q.2:Int)).map D.str=L2 at *
  generalize hw:(jI names cZ (p::dW)).map D.str=W at *
  generalize bO (jI names cZ (p::dW))=L,cE (cZ:Int)=ic at *
  unfold ef
  clear mem ls e2 hs hn hl hc hw hJ
  walk_at "mir"
 ·have l0:Aq (bO (jI names cZ (p::dW)))=some ((jI names cZ (p::dW)).map D.str):=rfl
  show _=some (D.lst (((p::dW).map λq=>cu names q.1).map D.str))
  generalize ((p::dW).map λq=>cu names q.1).map D.str=L2 at *
  generalize hw:(jI names cZ (p::dW)).map D.str=W at *
  generalize bO (jI names cZ (p::dW))=L at *
  unfold eZ
  clear mem ls e3 hs hn hl hc hw hJ ln q1 q2 q3
  walk_at "mir"
 ·intro x hx
  obtain⟨q,hq,rfl⟩:=dJ.mp hx
  exact xy (hs q hq).1
 ·have g3:∀y2 y3 y4:Option D,hX [some (bO (jI names cZ (p::dW))),some (bO names),y2,y3,y4]=some (.lst ((p::dW).map λq=>D.int (q.1:Int))):=λy2 y3 y4=>by
   have l0:=ls [some (bO (jI names cZ (p::dW))),some (bO names),y2,y3,y4] rfl
   refine xm (λq:Nat×Nat=>D.str (cu names q.1)) _ (p::dW) ?_ (by simp;omega) λq hq=>⟨[some (.str (cu names q.1)),some (bO names)],rfl,?_⟩
   ·show(((lsD (eV 0)) _).bind λds=>some (D.lst (every2 (ds.drop 2)))).bind Aq=_
    rw[l0,dO,e2,eD]
    rfl
   ·have:=Hv hn.nd (hs q hq).1
    generalize bO names=N at *
    clear l0 mem ls
    walk_at "mir"
  have g2:∀y2 y3 y4:Option D,hV [some (bO (jI names cZ (p::dW))),some (bO names),y2,y3,y4]=some (.lst ((p::dW).map λq=>D.int (q.2:Int))):=λy2 y3 y4=>by
   have l0:=ls [some (bO (jI names cZ (p::dW))),some (bO names),y2,y3,y4] rfl
   refine xm (λq:Nat×Nat=>D.str (cE (q.2:Int))) _ (p::dW) ?_ (by simp;omega) λq hq=>⟨[some (.str (cE (q.2:Int)))],rfl,?_⟩
   ·show(((lsD (eV 0)) _).bind λds=>some (D.lst (every2 (ds.drop 3)))).bind Aq=_
    rw[l0,dO,e3,eD]
    rfl
   ·have:=zY (n:=q.2) (by have:=(hs q hq).2;omega)
    generalize cE (q.2:Int)=iq at *
    clear l0 mem ls
    walk_at "mir"
  have g1:hU [some (bO (jI names cZ (p::dW))),some (bO names),some (.lst ((p::dW).map λq=>D.int (q.1:Int))),some (.lst ((p::dW).map λq=>D.int (q.2:Int))),none]=some (.lst ((vN (p::dW)).map λx=>cA (Bl x))):=by
   refine xm (λx=>D.tup [.int (x.1:Int),.int (x.2.1:Int),.int (x.2.2:Int)]) (λx=>cA (Bl x)) (vN (p::dW)) ?_ (by have:=Hz (p::dW);simp at this ⊢;omega) λx hx=>⟨[some (.int (x.1:Int)),some (.int (x.2.1:Int)),some (.int (x.2.2:Int))],rfl,rfl⟩
   have sl:dP (.lst ((p::dW).map λq=>D.int (q.1:Int))) (some 1) none=some (.lst (((p::dW).map λq=>D.int (q.1:Int)).drop 1)):=by
    show some (D.lst (cutD _ (some ((1:Nat):Int)) none))=_
    rw[wn]
   have z:=K9 (p::dW)
   generalize ((p::dW).map λq=>D.int (q.1:Int)).drop 1=G1 at *
   generalize ((p::dW).map λq=>D.int (q.1:Int))=G,((p::dW).map λq=>D.int (q.2:Int))=T at *
   rw[←z]
   have zb:xM [.lst G,.lst G1,.lst T]=some (iZ G G1 T):=rfl
   clear z mem ls g3 g2
   walk_at "mir"
  have la:=Kl (λq:Nat×Nat=>D.int (q.1:Int)) p dW
  have lb:=Kl (λq:Nat×Nat=>D.int (q.2:Int)) p dW
  have f0:dY (.lst ((p::dW).map λq=>D.int (q.1:Int))) (.int 0)=some (.int (p.1:Int)):=yp (xs:=(p::dW).map λ(q:Nat×Nat)=>D.int (q.1:Int)) (j:=0) rfl
  have ci:=zY (n:=cZ) (by omega)
  have r3:∀s g t b:Int,fI 3 [.int s,.int g,.int t,.int b]=some (.obj 3 ["start","goal","time","behind"] [.int s,.int g,.int t,.int b]):=λ_ _ _ _=>rfl
  have al:gI [bO (jI names cZ (p::dW)),bO names]=some (.lst ((xY cZ p dW).map cA)):=by
   have ad:∀o:D,cP (.lst ((vN (p::dW)).map λx=>cA (Bl x))) (.lst [o])=some (.lst (((vN (p::dW)).map λx=>cA (Bl x))++[o])):=λo=>yk (by have:=Hz (p::dW);simp at this ⊢;omega)
   have ea:(xY cZ p dW).map cA=((vN (p::dW)).map λx=>cA (Bl x))++[D.obj 3 ["start","goal","time","behind"] [.int (((p::dW).getLast (by simp)).1:Int),.int (p.1:Int),.int (((p::dW).getLast (by simp)).2:Int),.int (cZ:Int)]]:=by
    unfold xY
    rw[cW,eD]
    rfl
   rw[ea]
   have g3:=g3 none none none
   have g2:=g2 (some (.lst ((p::dW).map λq=>D.int (q.1:Int)))) none none
   generalize ((p::dW).map λq=>D.int (q.1:Int))=G,((p::dW).map λq=>D.int (q.2:Int))=T,((vN (p::dW)).map λx=>cA (Bl x))=TR,(((p::dW).getLast (by simp)).1:Int)=z1,(((p::dW).getLast (by simp)).2:Int)=z2,bO (jI names cZ (p::dW))=L,bO names=N,cE (cZ:Int)=ic at *
   unfold gI
   generalize hU=Q1,hV=Q2,hX=Q3 at *
   clear mem ls hs hn hl hc hJ ln q1 q2 q3 e2 e3 ea q4
   walk_at "mir"
  generalize (xY cZ p dW).map cA=LA,bO (jI names cZ (p::dW))=L,bO names=N at *
  unfold eo
  clear mem ls hs hn hl hc hJ ln q1 q2 q3 e2 e3 g1 g2 g3 la lb f0 ci r3
  walk_at "mir"
noncomputable def As (isn:Str->Bool):List Str->List Str->Bool
 |_,[]=>true
 |seen,x::xs=>isn x&&(!seen.contains x)&&As isn (seen++[x]) xs
theorem La (isn:Str->Bool):∀(xs seen:List Str),seen.Nodup->(As isn seen xs=true↔(∀x∈xs,isn x=true)/\(seen++xs).Nodup)
 |[],seen,h=>by simp[As,h]
 |x::xs,seen,h=>by
  unfold As
  rw[cw,cw]
  by_cases hx:x∈seen
  ·have c:(!seen.contains x)=false:=by simp[hx]
   rw[c]
   constructor
   ·rintro⟨⟨_,z⟩,_⟩;cases z
   ·rintro⟨_,nd⟩
    exact absurd rfl (((cI.mp nd).2.2 x hx x bF))
  ·have c:(!seen.contains x)=true:=by simp[hx]
   have nd:(seen++[x]).Nodup:=cI.mpr ⟨h,by simp,λa ha b hb e=>by
    rw[cj]at hb;subst hb;subst e;exact hx ha⟩
   rw[La isn xs (seen++[x]) nd,c,dz,List.singleton_append]
   constructor
   ·rintro⟨⟨h1,_⟩,h2,h3⟩
    exact⟨λy hy=>by
     rcases bL.mp hy with rfl|hy
     ·exact h1
     ·exact h2 y hy,h3⟩
   ·rintro⟨h1,h2⟩
    exact⟨⟨h1 x bF,rfl⟩,λy hy=>h1 y (bJ _ hy),h2⟩
noncomputable def jW (seen:List Str):D:=.dK (seen.map Sum.inr) (seen.map λ_=>D.bl true)
theorem Km (x:Str):∀seen:List Str,(nJ (seen.map (Sum.inr:Str->gN)) (seen.map λ_=>D.bl true) (.inr x)).isSome=seen.contains x
 |[]=>rfl
 |y::seen=>by
  have ih:=Km x seen
  unfold nJ at *
  rw[cn,cn,e9,dN]
  by_cases h:y=x
  ·subst h;simp
  ·have h1:¬(Sum.inr y:gN)=.inr x:=λz=>h (by cases z;rfl)
   rw[decide_eq_false h1]
   dsimp only
   rw[ih]
   have h2:¬x=y:=λz=>h z.symm
   simp[h2]
theorem JQ (isn:Str->Bool)(d:D):∀(xs seen:List Str) (y2:Option D),(∀x∈xs,jN [.str x]=some (.bl (isn x)))->seen.length+xs.length<=100 ->
  (As isn seen xs=true/\∃t1 t2,lU (gV 2) dF (xs.map .str) [some d,some (jW seen),y2]=some (.nx [some d,t1,t2]))\/(As isn seen xs=false/\lU (gV 2) dF (xs.map .str) [some d,some (jW seen),y2]=some (.rt (.bl false)))
 |[],seen,y2,_,_=>.inl ⟨rfl,_,_,rfl⟩
 |x::xs,seen,y2,hn,hl=>by
  have h1:=hn x bF
  have hg:(uE (jW seen) (.str x)).bind (λr=>some (D.bl r.isSome))=some (.bl (seen.contains x)):=by
   show some (D.bl (nJ (seen.map (Sum.inr:Str->gN)) (seen.map λ_=>D.bl true) (.inr x)).isSome)=_
   rw[Km]
  have EE:lU (gV 2) dF ((x::xs).map .str) [some d,some (jW seen),y2]=(dF [some d,some (jW seen),some (.str x)]).bind λo=>match o with
    |.nx ρ'=>lU (gV 2) dF (xs.map .str) ρ'
    |.ct ρ'=>lU (gV 2) dF (xs.map .str) ρ'
    |.bk ρ'=>some (.nx ρ')
    |.rt d=>some (.rt d):=rfl
  rw[EE]
  unfold As
  cases hi:isn x with
  |false=>
   right
   refine⟨rfl,?_⟩
   rw[hi]at h1
   have:dF [some d,some (jW seen),some (.str x)]=some (.rt (.bl false)):=by
    unfold dF
    clear hg EE hn hl hi
    walk_at "mir"
   rw[this];rfl
  |true=>
   rw[hi]at h1
   cases hc:seen.contains x with
   |true=>
    right
    refine⟨rfl,?_⟩
    rw[hc]at hg
    have:dF [some d,some (jW seen),some (.str x)]=some (.rt (.bl false)):=by
     generalize jW seen=sd at *
     unfold dF
     clear EE hn hl hi hc
     walk_at "mir"
    rw[this];rfl
   |false=>
    rw[hc]at hg
    have put:uL 1 (eV 2) (eC (.bl true)) [some d,some (jW seen),some (.str x)]=some (.nx [some d,some (jW (seen++[x])),some (.str x)]):=by
     have NB:(Sum.inr x:gN)∉seen.map (Sum.inr:Str->gN):=λz=>by
      obtain⟨y,hy,e⟩:=dJ.mp z
      cases e
      rw[sK.mpr hy]at hc
      cases hc
     have e:lq (seen.map (Sum.inr:Str->gN)) (seen.map λ_=>D.bl true) (.inr x) (.bl true)=((seen++[x]).map Sum.inr,(seen++[x]).map λ_=>D.bl true):=by
      unfold lq
      rw[if_neg (by simpa using NB),cW,cW]
      rfl
     show(if(seen.map (Sum.inr:Str->gN)).length<16777216 then some (Out.nx [some d,some (.dK (lq (seen.map (Sum.inr:Str->gN)) (seen.map λ_=>D.bl true) (.inr x) (.bl true)).1 (lq (seen.map (Sum.inr:Str->gN)) (seen.map λ_=>D.bl true) (.inr x) (.bl true)).2),some (.str x)])else none)=_
     rw[if_pos (by rw[bN];omega),e]
     rfl
    have:dF [some d,some (jW seen),some (.str x)]=some (.nx [some d,some (jW (seen++[x])),some (.str x)]):=by
     generalize jW (seen++[x])=VO,jW seen=sd at *
     unfold dF
     generalize uL 1 (eV 2) (eC (.bl true))=PD at *
     clear EE hn hl hi hc
     walk_at "mir"
    rw[this]
    exact JQ isn d xs (seen++[x]) _ (λy hy=>hn y (bJ _ hy)) (by rw[cv];simp at hl ⊢;omega)
theorem Pv (isn:Str->Bool)(xs:List Str)(hn:∀x∈xs,jN [.str x]=some (.bl (isn x)))(hl:xs.length<=100):fE [.lst (xs.map .str)]=some (.bl (decide (1<=xs.length/\xs.length<=40)&&As isn [] xs)):=by
 have i1:pf "list" (.lst (xs.map D.str))=some (.bl true):=rfl
 have l1:eO [.lst (xs.map D.str)]=some (.int (xs.length:Int)):=(xg _).trans (by rw[bN])
 by_cases h:1<=xs.length/\xs.length<=40
 ·have a1:¬(xs.length:Int)<1:=by omega
  have a2:¬(xs.length:Int) > 40:=by omega
  rw[decide_eq_true h,Ab]
  have e0:jW []=.dK [] []:=rfl
  rcases JQ isn (.lst (xs.map .str)) xs [] none hn (by simpa using hl)with⟨h1,t1,t2,h2⟩|⟨h1,h2⟩
  ·rw[h1]
   rw[e0]at h2
   generalize xs.map D.str=v at *
   unfold fE
   simp -implicitDefEqProofs [mOf,startD,sSeq,sIf,sSet,sRet,sFor,lsD,ua,sSkip,eV,eC,e1,e2,eN,aNil,aCons,tb,uq,bNot,bOr,l1,i1,v8,v9,a1,a2,h2]
  ·rw[h1]
   rw[e0]at h2
   generalize xs.map D.str=v at *
   unfold fE
   simp -implicitDefEqProofs [mOf,startD,sSeq,sIf,sSet,sRet,sFor,lsD,ua,sSkip,eV,eC,e1,e2,eN,aNil,aCons,tb,uq,bNot,bOr,l1,i1,v8,v9,a1,a2,h2]
 ·rw[decide_eq_false h,yG]
  generalize xs.map D.str=v at *
  have a1:(xs.length:Int)<1\/(¬(xs.length:Int)<1/\(xs.length:Int) > 40):=by omega
  unfold fE
  rcases a1 with a1|⟨a1,a2⟩
  ·simp -implicitDefEqProofs [mOf,startD,sSeq,sIf,sSet,sRet,sFor,lsD,ua,sSkip,eV,eC,e1,e2,eN,aNil,aCons,tb,uq,bNot,bOr,l1,i1,v8,v9,a1]
  ·simp -implicitDefEqProofs [mOf,startD,sSeq,sIf,sSet,sRet,sFor,lsD,ua,sSkip,eV,eC,e1,e2,eN,aNil,aCons,tb,uq,bNot,bOr,l1,i1,v8,v9,a1,a2]
theorem yF {c0:Nat}{m:Str}{f:List D->Option D}{ds:List D}(h:(["start","goal","time","behind"]:List Str).contains m=false):gA c0 m f (cA a) ds=if a.c.n=c0 then f (cA a::ds)else none:=by
 show(if a.c.n=c0/\(["start","goal","time","behind"]:List Str).contains m=false then f (cA a::ds)else none)=_
 rw[h]
 by_cases e:a.c.n=c0
 ·rw[if_pos ⟨e,rfl⟩,if_pos e]
 ·rw[if_neg λz=>e z.1,if_neg e]
theorem Ut (a:gQ):(gA 1 "word" ki (cA a) []).or ((gA 2 "word" kj (cA a) []).or (gA 3 "word" kh (cA a) []))=some (.str (eK a.c)):=by
 have w1:ki [cA a]=some (.str "ride"):=rfl
 have w2:kj [cA a]=some (.str "wait"):=rfl
 have w3:kh [cA a]=some (.str "back"):=rfl
 rw[yF (by decide +kernel),yF (by decide +kernel),yF (by decide +kernel),w1,w2,w3]
 cases a.c<;>rfl
theorem GI (m:Str)(f:List D->Option D)(a:gQ)(ds:List D)(h:(["start","goal","time","behind"]:List Str).contains m=false):(gA 0 m f (cA a) ds).or ((gA 1 m f (cA a) ds).or ((gA 2 m f (cA a) ds).or (gA 3 m f (cA a) ds)))=f (cA a::ds):=by
 rw[yF h,yF h,yF h,yF h]
 cases a.c<;>simp[Kd.n]
theorem qM (c:Nat):(de c).length=1:=rfl
noncomputable def kr (names:List Str)(a:gQ):Str:=Str.join (de 32) [eK a.c,cu names a.s,cu names a.g,cE a.t]
theorem ux {t:Int}(h0:0<=t)(h1:t<=1000000000):nr [.int t]=some (.str (cE t)):=by
 show(if t.natAbs.log2<1920 then _ else _)=_
 rw[if_pos]
 have:=Nat.log2_le_self t.natAbs
 by_cases hz:t.natAbs=0
 ·rw[hz];decide
 ·rw[t6 hz]
  refine nz (m:=2 ^ 30) (by omega) ?_
  exact Nat.pow_lt_pow_right (by decide) (by decide)
theorem Lb (hn:gD names)(h:Wr names.length a):cM [cA a,bO names]=some (.str (kr names a)):=by
 have f1:=fs a
 have f2:=fg a
 have f3:=ft a
 have w:=Ut a
 have i1:=DN h.s
 have i2:=DN h.g
 have st:=ux h.t0 h.t1
 have jn:iJ (.str " ") (.lst [.str (eK a.c),.str (cu names a.s),.str (cu names a.g),.str (cE a.t)])=some (.str (kr names a)):=by
  rw[zX]
  refine DG (b:=12) (ys:=[eK a.c,cu names a.s,cu names a.g,cE a.t]) (λy hy=>?_) (by rw[qM];simp)
  exact(xz hn h (cG _ hy)).2.1
 generalize kr names a=T,eK a.c=w0,bO names=N,cA a=ea at *
 unfold cM
 clear hn h
 walk_at "mir"
theorem P4 (hn:gD names)(h:Wr names.length a):cK [cA a,bO names]=some (.str (Str.join (de 32) [eK a.c,cu names a.s,cu names a.g,cE a.t,cE (a.b:Int)])):=by
 have r1:=GI "row_to_time" cM a [bO names] (by decide +kernel)
 rw[Lb hn h]at r1
 have f4:=fb a
 have st:=ux (t:=(a.b:Int)) (by omega) (by have:=h.b;omega)
 have lt:(kr names a).length<=60:=by
  have h1:=jy (de 32) [eK a.c,cu names a.s,cu names a.g,cE a.t]
  have h2:=DF (b:=12) (ys:=[eK a.c,cu names a.s,cu names a.g,cE a.t]) λy hy=>(xz hn h (cG _ hy)).2.1
  have:(de 32).length=1:=rfl
  unfold kr
  simp only[bM,jF]at h1 h2
  omega
 have lb:(cE (a.b:Int)).length<=60:=by have:=xl (n:=a.b) (by have:=h.b;omega);omega
 have jn:iJ (.str " ") (.lst [.str (kr names a),.str (cE (a.b:Int))])=some (.str (Str.join (de 32) [kr names a,cE (a.b:Int)])):=by
  rw[zX]
  refine DG (b:=60) (ys:=[kr names a,cE (a.b:Int)]) (λy hy=>?_) (by rw[qM];simp)
  simp only[bL,cH,or_false]at hy
  rcases hy with rfl|rfl
  ·exact lt
  ·exact lb
 have e:Str.join (de 32) [kr names a,cE (a.b:Int)]=Str.join (de 32) [eK a.c,cu names a.s,cu names a.g,cE a.t,cE (a.b:Int)]:=by
  apply wg
  unfold kr
  simp only[join_list]
  rw[dz]
  simp[join_list,Str.join,dz]
 rw[e]at jn
 generalize Str.join (de 32) [eK a.c,cu names a.s,cu names a.g,cE a.t,cE (a.b:Int)]=R,kr names a=T at *
 generalize cE (a.b:Int)=ib,bO names=N,cA a=ea at *
 unfold cK
 clear hn h lt lb e
 walk_at "mir"
noncomputable def fq (names:List Str)(a:gQ):Str:=Str.join (de 32) (nq names a)
theorem Uw (hn:gD names)(h:Wr names.length a):(gA 1 "row" jS (cA a) [bO names]).or ((gA 2 "row" jT (cA a) [bO names]).or (gA 3 "row" jR (cA a) [bO names]))=some (.str (fq names a)):=by
 rw[yF (by decide +kernel),yF (by decide +kernel),yF (by decide +kernel)]
 have o1:=GI "row_to_time" cM a [bO names] (by decide +kernel)
 have o2:=GI "row_to_behind" cK a [bO names] (by decide +kernel)
 rw[Lb hn h]at o1
 rw[P4 hn h]at o2
 have a1:jS [cA a,bO names]=some (.str (kr names a)):=by
  generalize kr names a=T,bO names=N,cA a=ea at *
  unfold jS
  clear o2 hn h
  walk_at "mir"
 have a2:jT [cA a,bO names]=some (.str (Str.join (de 32) [eK a.c,cu names a.s,cu names a.g,cE a.t,cE (a.b:Int)])):=by
  generalize Str.join (de 32) [eK a.c,cu names a.s,cu names a.g,cE a.t,cE (a.b:Int)]=T,bO names=N,cA a=ea at *
  unfold jT
  clear o1 a1 hn h
  walk_at "mir"
 have a3:jR [cA a,bO names]=some (.str (Str.join (de 32) [eK a.c,cu names a.s,cu names a.g,cE a.t,cE (a.b:Int)])):=by
  generalize Str.join (de 32) [eK a.c,cu names a.s,cu names a.g,cE a.t,cE (a.b:Int)]=T,bO names=N,cA a=ea at *
  unfold jR
  clear o1 a1 a2 hn h
  walk_at "mir"
 rw[a1,a2,a3]
 obtain⟨c,s,g,t,b⟩:=a
 cases c
 ·show some (D.str (kr names _))=_;rfl
 ·rfl
 ·rfl
noncomputable def oY (names:List Str):Str:=Str.join (de 32) ("goings"::names)
noncomputable def rB (names:List Str)(rows:List Str):Str:=Str.join (de 10) (oY names::rows)
theorem Uu {c:Nat}(hc:c<48):pV c ("goings":Str):=λz=>by
 have:∀x∈("goings":Str).cps.toList,48<=x:=by decide +kernel
 have:=this c z
 omega
theorem DM (hn:gD names)(hw:w∈(("goings":Str)::names)):(∀c,c<48->pV c w)/\w.length<=12/\cx.strOk w=true:=by
 rcases bL.mp hw with rfl|hw
 ·exact⟨λc hc=>Uu hc,by decide,yo _⟩
 ·have:=jc (hn.ok w hw)
  exact⟨λc hc=>EY (hn.ok w hw) hc,by omega,HZ (hn.ok w hw)⟩
theorem uz {b:Nat}(h:∀w∈ws,w.length<=b)(c:Nat):(Str.join (de c) ws).length<=ws.length*b+ws.length:=by
 have h1:=jy (de c) ws
 have h2:=DF h
 have:(de c).length=1:=rfl
 rw[this,Nat.mul_one]at h1
 omega
theorem HA (hn:gD names):(oY names).length<=600:=by
 have:=uz (λw hw=>(DM hn hw).2.1) (ws:="goings"::names) 32
 have:=hn.le
 unfold oY
 simp only[bM]at *
 omega
theorem E1 (hn:gD names):iJ (.str " ") (bO ("goings"::names))=some (.str (oY names)):=by
 rw[zX]
 exact DG (b:=12) (λy hy=>(DM hn hy).2.1) (by have:=hn.le;rw[qM,bM];omega)
theorem Hw (hn:gD names)(h:Wr names.length a):(fq names a).length<=600:=by
 have:=uz (λw hw=>(xz hn h hw).2.1) 32
 unfold fq
 have hl:(nq names a).length<=5:=by
  unfold nq
  rw[cv]
  split<;>simp
 omega
theorem SM (hn:gD names)(hw:∀a∈as,Wr names.length a)(hl:as.length<=200):oU [cN (names.map .str) as]=some (.str (rB names (as.map (fq names)))):=by
 have q1:nK [some (cN (names.map .str) as)]=some (bO (as.map (fq names))):=by
  unfold bO
  rw[eD]
  refine xm cA _ as rfl (by omega) λa ha=>⟨[some (cA a),some (cN (names.map .str) as)],rfl,?_⟩
  have r:=Uw hn (hw a ha)
  have f1:dc [4] "names" (cN (names.map .str) as)=some (bO names):=rfl
  show _=some (D.str (fq names a))
  generalize fq names a=T,cN (names.map .str) as=nd,bO names=N,cA a=ea at *
  clear hn hw hl
  walk_at "mir"
 have f1:dc [4] "names" (cN (names.map .str) as)=some (bO names):=rfl
 have a1:cP (.lst [.str "goings"]) (bO names)=some (bO ("goings"::names)):=yk (by have:=hn.le;simp;omega)
 have h1:=E1 hn
 have a2:cP (.lst [.str (oY names)]) (bO (as.map (fq names)))=some (bO (oY names::as.map (fq names))):=yk (by simp;omega)
 have jn:iJ (.str "\n") (bO (oY names::as.map (fq names)))=some (.str (rB names (as.map (fq names)))):=by
  rw[Mm]
  refine DG (b:=600) (λy hy=>?_) (by rw[qM,bM,bN];omega)
  rcases bL.mp hy with rfl|hy
  ·exact HA hn
  ·obtain⟨a,ha,rfl⟩:=dJ.mp hy
   exact Hw hn (hw a ha)
 generalize rB names (as.map (fq names))=T,bO (oY names::as.map (fq names))=L1,bO (as.map (fq names))=L2,bO ("goings"::names)=L3,bO names=N at *
 generalize oY names=HD,cN (names.map .str) as=nd at *
 unfold oU
 generalize nK=Q at *
 clear hn hw hl
 walk_at "mir"
theorem Kn (hn:gD names)(h1:names≠[]):fE [bO names]=some (.bl true):=by
 have oZ:=hn.le
 have hp:1<=names.length:=eQ.mpr h1
 show fE [.lst (names.map .str)]=_
 rw[Pv (λ_=>true) names (λx hx=>Qd (hn.ok x hx)) (by omega),decide_eq_true ⟨hp,oZ⟩,Ab,(La _ _ [] cQ).mpr ⟨λ_ _=>rfl,by rw[xO];exact hn.nd⟩]
noncomputable def tF (z:Int):Nat:=97+(z%26).toNat
noncomputable def pW (z:Int):Nat:=if(z%36).toNat<26 then 97+(z%36).toNat else 22+(z%36).toNat
noncomputable def lF (c:Int)(a k j:Nat):Int:=c/(64+37*(j:Int))+(if j=a then(k:Int)else 0)
noncomputable def BE (c:Int)(a k j:Nat):Nat:=if j=0 then tF (lF c a k j)else pW (lF c a k j)
noncomputable def AD (c:Int)(a k n:Nat):List Nat:=(cC n).map (BE c a k)
noncomputable def pQ (c:Int)(a k n:Nat):Str:=⟨(AD c a k n).toArray⟩
theorem vq (c:Int)(a k n:Nat):(pQ c a k n).cps.toList=AD c a k n:=rfl
noncomputable def Ef (x:Option D)(c:Nat):Bool:=match x with
 |some (.str a)=>decide (a=de c)
 |_=>false
theorem LC {x:Option D}{c:Nat}(h:Ef x c=true):x=some (.str (de c)):=by
 unfold Ef at h
 split at h
 ·rw[of_decide_eq_true h]
 ·cases h
theorem Uv:∀l,l<26->Ef (dY (.str "abcdefghijklmnopqrstuvwxyz") (.int ((l:Nat):Int))) (97+l)=true:=by decide +kernel
theorem T1:∀l,l<36->Ef (dY (.str ("abcdefghijklmnopqrstuvwxyz" ++ "0123456789")) (.int ((l:Nat):Int))) (if l<26 then 97+l else 22+l)=true:=by decide +kernel
theorem Gu (z:Int):dY (.str "abcdefghijklmnopqrstuvwxyz") (.int (z%26))=some (.str (de (tF z))):=by
 have:=LC (Uv (z%26).toNat (by omega))
 rwa[gY (by omega)]at this
theorem Gv (z:Int):dY (.str ("abcdefghijklmnopqrstuvwxyz" ++ "0123456789")) (.int (z%36))=some (.str (de (pW z))):=by
 have:=LC (T1 (z%36).toNat (by omega))
 rwa[gY (by omega)]at this
theorem Rc (c:Int)(a k n:Nat):pQ c a k (n+1)=pQ c a k n++de (BE c a k n):=by
 apply wg
 rw[xn,vq,vq]
 unfold AD
 rw[jG,cW]
 rfl
theorem SN (c:Int)(a k j:Nat)(hj:j<8)(y1 y4 y6 xL:Option D):∃(Bu:Option D),
  iP [some (.int c),y1,some (.str "abcdefghijklmnopqrstuvwxyz"),some (.str ("abcdefghijklmnopqrstuvwxyz" ++ "0123456789")),y4,some (.int (a:Int)),y6,some (.int (k:Int)),some (.str (pQ c a k j)),some (.int (j:Int)),xL] =
   some (.nx [some (.int c),y1,some (.str "abcdefghijklmnopqrstuvwxyz"),some (.str ("abcdefghijklmnopqrstuvwxyz" ++ "0123456789")),y4,some (.int (a:Int)),y6,some (.int (k:Int)),some (.str (pQ c a k (j+1))),some (.int (j:Int)),Bu]):=by
 have i1:qZ [.bl true]=some (.int 1):=rfl
 have i0:qZ [.bl false]=some (.int 0):=rfl
 have m1:ig (.int 37) (.int (j:Int))=some (.int (37*(j:Int))):=jj (by decide) (by decide)
 have f1:iw (.int c) (.int (64+37*(j:Int)))=some (.int (c/(64+37*(j:Int)))):=um (by omega) (by omega)
 have ev:(e2 cP (e2 iw (eV 0) (e2 cP (eC (.int 64)) (e2 ig (eC (.int 37)) (eV 9)))) (e2 ig (eV 7) (eN qZ (aCons (e2 (fR false) (eV 9) (eV 5)) aNil)))) [some (.int c),y1,some (.str "abcdefghijklmnopqrstuvwxyz"),some (.str ("abcdefghijklmnopqrstuvwxyz" ++ "0123456789")),y4,some (.int (a:Int)),y6,some (.int (k:Int)),some (.str (pQ c a k j)),some (.int (j:Int)),xL]=some (.int (lF c a k j)):=by
  unfold lF
  generalize ("abcdefghijklmnopqrstuvwxyz" ++ "0123456789":Str)=B,("abcdefghijklmnopqrstuvwxyz":Str)=A,pQ c a k j=w at *
  by_cases hb:j=a
  ·have m2:ig (.int (k:Int)) (.int 1)=some (.int (k:Int)):=(zaj (by decide) (by decide)).trans (by rw[Int.mul_one])
   rw[if_pos hb]
   subst hb
   generalize c/(64+37*(j:Int))=C at *
   clear hj i0
   walk_at "mir"
  ·have m2:ig (.int (k:Int)) (.int 0)=some (.int 0):=(zaj (by decide) (by decide)).trans (by rw[Int.mul_zero])
   rw[if_neg hb]
   have hb:¬(j:Int)=(a:Int):=by omega
   generalize c/(64+37*(j:Int))=C at *
   clear hj i1
   walk_at "mir"
 clear f1 m1 i0 i1
 have x1:=Gu (lF c a k j)
 have x2:=Gv (lF c a k j)
 have es:=Rc c a k j
 have lw:(pQ c a k j).length=j:=by
  rw[←vo,vq];unfold AD;simp
 refine⟨some (.int (lF c a k j)),?_⟩
 have g1:eU (.int (lF c a k j)) (.int 26)=some (.int (lF c a k j%26)):=yf (by decide)
 have g2:eU (.int (lF c a k j)) (.int 36)=some (.int (lF c a k j%36)):=yf (by decide)
 have ad:cP (.str (pQ c a k j)) (.str (de (pW (lF c a k j))))=some (.str (pQ c a k j++de (pW (lF c a k j)))):=zx (by rw[qM];omega)
 unfold iP
 generalize (e2 cP (e2 iw (eV 0) (e2 cP (eC (.int 64)) (e2 ig (eC (.int 37)) (eV 9)))) (e2 ig (eV 7) (eN qZ (aCons (e2 (fR false) (eV 9) (eV 5)) aNil))))=EV at *
 by_cases h0:j=0
 ·have e0:pQ c a k (j+1)=de (tF (lF c a k j)):=by
   rw[es]
   unfold BE
   rw[if_pos h0,h0]
   apply wg
   rw[xn]
   rfl
  rw[e0]
  clear es lw e0 hj g2 x2
  generalize ("abcdefghijklmnopqrstuvwxyz" ++ "0123456789":Str)=B,("abcdefghijklmnopqrstuvwxyz":Str)=A,lF c a k j=S,pQ c a k j=w at *
  subst h0
  have z0:((0:Nat):Int)=0:=rfl
  rw[z0]at ev ⊢
  walk_at "mir"
 ·have e0:BE c a k j=pW (lF c a k j):=by unfold BE;rw[if_neg h0]
  rw[es,e0]
  clear es lw e0 hj g1 x1
  have h0:¬(j:Int)=0:=by omega
  generalize ("abcdefghijklmnopqrstuvwxyz" ++ "0123456789":Str)=B,("abcdefghijklmnopqrstuvwxyz":Str)=A,lF c a k j=S at *
  generalize pQ c a k j++de (pW S)=w2 at *
  generalize pQ c a k j=w at *
  walk_at "mir"
noncomputable def lD (c:Int)(a sz many:Nat):List Str:=(cC many).map λk=>pQ c a k sz
theorem SO (c:Int){a sz:Nat}(hm:many<=8)(hs:sz<=8):∃y7 y8 y9 xL:Option D,lU (gV 7) gR (oH 0 many) [some (.int c),some (.int (many:Int)),some (.str "abcdefghijklmnopqrstuvwxyz"),some (.str ("abcdefghijklmnopqrstuvwxyz" ++ "0123456789")),some (.int (sz:Int)),some (.int (a:Int)),some (.lst []),none,none,none,none]=some (.nx [some (.int c),some (.int (many:Int)),some (.str "abcdefghijklmnopqrstuvwxyz"),some (.str ("abcdefghijklmnopqrstuvwxyz" ++ "0123456789")),some (.int (sz:Int)),some (.int (a:Int)),some (bO (lD c a sz many)),y7,y8,y9,xL]):=by
 have r2:=ur (j:=(sz:Int)) (by omega) (by omega)
 rw[fJ]at r2
 obtain⟨ρ',h1,y7,y8,y9,xL,rfl⟩:=vm (g:=gV 7) (b:=gR) (lo:=0) (n:=many) (ρ:=[some (.int c),some (.int (many:Int)),some (.str "abcdefghijklmnopqrstuvwxyz"),some (.str ("abcdefghijklmnopqrstuvwxyz" ++ "0123456789")),some (.int (sz:Int)),some (.int (a:Int)),some (.lst []),none,none,none,none])
  (λn ρ=>∃(y7 y8 y9 xL:Option D),ρ=[some (.int c),some (.int (many:Int)),some (.str "abcdefghijklmnopqrstuvwxyz"),some (.str ("abcdefghijklmnopqrstuvwxyz" ++ "0123456789")),some (.int (sz:Int)),some (.int (a:Int)),some (bO (lD c a sz n)),y7,y8,y9,xL]) ⟨_,_,_,_,rfl⟩ (by
   rintro k ρ hk ⟨y7,y8,y9,xL,rfl⟩
   obtain⟨ρ2,h2,z9,Bu,rfl⟩:=vm (g:=gV 9) (b:=iP) (lo:=0) (n:=sz) (ρ:=[some (.int c),some (.int (many:Int)),some (.str "abcdefghijklmnopqrstuvwxyz"),some (.str ("abcdefghijklmnopqrstuvwxyz" ++ "0123456789")),some (.int (sz:Int)),some (.int (a:Int)),some (bO (lD c a sz k)),some (.int (k:Int)),some (.str ""),y9,xL])
    (λn ρ=>∃(z9 Bu:Option D),ρ=[some (.int c),some (.int (many:Int)),some (.str "abcdefghijklmnopqrstuvwxyz"),some (.str ("abcdefghijklmnopqrstuvwxyz" ++ "0123456789")),some (.int (sz:Int)),some (.int (a:Int)),some (bO (lD c a sz k)),some (.int (k:Int)),some (.str (pQ c a k n)),z9,Bu]) ⟨_,_,rfl⟩ (by
     rintro j ρ hj ⟨z9,Bu,rfl⟩
     obtain⟨z,e⟩:=SN c a k j (by omega) (some (.int (many:Int))) (some (.int (sz:Int))) (some (bO (lD c a sz k))) Bu
     refine⟨_,_,rfl,.inl ?_,some (.int (j:Int)),z,rfl⟩
     rw[nP]
     exact e)
   refine⟨_,_,rfl,.inl ?_,some (.int (k:Int)),some (.str (pQ c a k sz)),z9,Bu,rfl⟩
   rw[nP]
   have ep:bO (lD c a sz (k+1))=.lst ((lD c a sz k).map D.str++[.str (pQ c a k sz)]):=by
    unfold bO lD;rw[jG,cW,cW];rfl
   have es:bO (lD c a sz k)=.lst ((lD c a sz k).map D.str):=rfl
   have jM:((lD c a sz k).map D.str).length<16777216:=by unfold lD;rw[bN,bN,dI];omega
   rw[ep]
   rw[es]at h2 ⊢
   generalize (lD c a sz k).map D.str=L1,("abcdefghijklmnopqrstuvwxyz" ++ "0123456789":Str)=B,("abcdefghijklmnopqrstuvwxyz":Str)=A,pQ c a k sz=w,(sz:Int)=SZ,oH 0 sz=U at *
   clear ep es hm hk hs
   unfold gR
   walk_at "mir")
 exact⟨y7,y8,y9,xL,h1⟩
theorem SQ (z:Int):Be (tF z)=true:=by
 unfold Be tF
 exact decide_eq_true (by omega)
theorem SR (z:Int):(Be (pW z) || Fx (pW z))=true:=by
 unfold pW Be Fx
 split
 ·rw[decide_eq_true (by omega)];rfl
 ·rw[jE];exact .inr (decide_eq_true (by omega))
theorem T2 (c:Int)(a k n:Nat)(h1:1<=n)(h2:n<=8):xA (pQ c a k n)=true:=by
 obtain⟨m,rfl⟩:∃m,n=m+1:=⟨n-1,by omega⟩
 unfold xA
 rw[vq]
 unfold AD
 rw[rR,cn]
 show(_&&Be (tF _)&&_)=true
 rw[SQ,Bool.and_true,cw]
 refine⟨decide_eq_true (by simp;omega),fS.mpr λx hx=>?_⟩
 obtain⟨j,hj,rfl⟩:=dJ.mp hx
 obtain⟨i,_,rfl⟩:=dJ.mp hj
 exact SR _
theorem SS {c:Int}{a n k k':Nat}(ha:a<n)(hk:k<8)(VC:k'<8)(h:pQ c a k n=pQ c a k' n):k=k':=by
 have h:AD c a k n=AD c a k' n:=by rw[←vq,h,vq]
 unfold AD at h
 have h:=congrArg (λl=>l[a]?) h
 simp only[c9,t4 ha,ou,Option.some.injEq]at h
 unfold BE tF pW lF at h
 rw[if_pos rfl,if_pos rfl]at h
 generalize c/(64+37*(a:Int))=C at h
 split at h
 ·omega
 ·split at h<;>split at h<;>omega
theorem SU (c:Int){a sz:Nat}(ha:a<sz)(hs:sz<=8)(hm:many<=8):gD (lD c a sz many):=by
 refine⟨?_,λx hx=>?_,by unfold lD;rw[bN,dI];omega⟩
 ·refine List.pairwise_map.mpr (Ac.imp_of_mem (λhi hj ne e=>ne ?_) (iT (n:=many)))
  rw[di]at hi hj
  exact SS ha (by omega) (by omega) e
 ·obtain⟨k,_,rfl⟩:=dJ.mp hx
  exact T2 c a k sz (by omega) hs
noncomputable def dB (a:gQ):D:=.tup [.str (eK a.c),.int (a.s:Int),.int (a.g:Int),.int a.t,.int (a.b:Int)]
theorem C8 (ds:List D)(n:Nat)(h:ds.length=n)(hn:0<n)(P:D->Prop)(hp:∀d∈ds,P d)(k:Int):∃d,atI ds (k%(n:Int))=some d/\P d:=by
 have a1:=jK k (show(n:Int)≠0 by omega)
 have a2:=ik k (show(0:Int)<(n:Int)by omega)
 obtain⟨l,e⟩:∃l:Nat,k%(n:Int)=(l:Int):=⟨(k%(n:Int)).toNat,by omega⟩
 rw[e]
 have qW:l<ds.length:=by omega
 exact⟨ds[l],yp (cz qW),hp _ (ot qW)⟩
theorem SV (c:Int){k:Nat}(hk:k<=1000)(hm:1<=many)(h8:many<=8):∃a:gQ,fF [.int c,.int (k:Int),.int (many:Int)]=some (dB a)/\Right many a/\(a.b=0->a.s<a.g):=by
 obtain⟨z,m1,_⟩:=jb c (k:=(k:Int)) (by omega) (by omega)
 have u1:eU (.int (z:Int)) (.int (many:Int))=some (.int ((z%many:Nat):Int)):=by rw[yf (by omega)];simp
 have u2:eU (.int ((z:Int)/8)) (.int (many:Int))=some (.int ((z/8%many:Nat):Int)):=by rw[yf (by omega)];simp
 have g1:z%many<many:=qE _ (by omega)
 have g2:z/8%many<many:=qE _ (by omega)
 generalize z%many=x,z/8%many=y at *
 obtain⟨_,bx,b,rfl,b4⟩:=C8 [.int 0,.int 0,.int 1,.int 1,.int 2,.int 3,.int 4] 7 rfl (by decide) (λd=>∃b:Nat,d=.int (b:Int)/\b<=4) (by
  intro d hd
  simp only[bL,cH,or_false]at hd
  rcases hd with rfl|rfl|rfl|rfl|rfl|rfl|rfl
  all_goals first|exact⟨0,rfl,by decide⟩|exact⟨1,rfl,by decide⟩|exact⟨2,rfl,by decide⟩|exact⟨3,rfl,by decide⟩|exact⟨4,rfl,by decide⟩) ((z:Int)/64)
 have bx:dY (.lst [.int 0,.int 0,.int 1,.int 1,.int 2,.int 3,.int 4]) (.int ((z:Int)/64%7))=some (.int (b:Int)):=bx
 obtain⟨t,tx,ht⟩:=C7 ((z:Int)/512%10) ((z:Int)/512%1000000001) 1000000000 0 ((z:Int)/448)
 have tx:dY (.lst [.int ((z:Int)/512%10),.int ((z:Int)/512%1000000001),.int 1000000000,.int 0]) (.int ((z:Int)/448%4))=some (.int t):=tx
 have t0:0<=t:=by rcases ht with rfl|rfl|rfl|rfl<;>omega
 have t1:t<=1000000000:=by rcases ht with rfl|rfl|rfl|rfl<;>omega
 clear ht
 have i1:qZ [.bl true]=some (.int 1):=rfl
 have i0:qZ [.bl false]=some (.int 0):=rfl
 have pw:(10:Int) ^ (9:Int).toNat=1000000000:=by decide
 have w0:dY (.lst [.str "wait",.str "ride",.str "wait",.str "back"]) (.int 0)=some (.str (eK .wait)):=rfl
 have w1:dY (.lst [.str "wait",.str "ride",.str "wait",.str "back"]) (.int 1)=some (.str (eK .ride)):=rfl
 have w2:dY (.lst [.str "wait",.str "ride",.str "wait",.str "back"]) (.int 2)=some (.str (eK .wait)):=rfl
 have w3:dY (.lst [.str "wait",.str "ride",.str "wait",.str "back"]) (.int 3)=some (.str (eK .back)):=rfl
 have Jk:ig (.int 2) (.int 1)=some (.int 2):=rfl
 have Eh:ig (.int 2) (.int 0)=some (.int 0):=rfl
 have z0:((0:Nat):Int)=0:=rfl
 have big:∀b':Nat,1<=b'->b'<=4->((x:Int)=(y:Int)->mF [.int 1,.int (b:Int)]=some (.int (b':Int)))->(¬(x:Int)=(y:Int)->b'=b)->∃a:gQ,fF [.int c,.int (k:Int),.int (many:Int)]=some (dB a)/\Right many a/\(a.b=0->a.s<a.g):=λb' hb IK he mN=>by
  have FI:¬(b':Int)=0:=by omega
  have Vw:0<b':=hb
  have Vx:¬b'=0:=by omega
  have pr:(z:Int)/1792%2=0\/(z:Int)/1792%2=1:=by omega
  rcases pr with pr|pr
  ·refine⟨⟨.wait,x,y,t,b'⟩,?_,⟨g1,g2,t0,t1,IK,nofun,nofun⟩,λh=>absurd h (by show¬b'=0;omega)⟩
   unfold fF dB
   show _=some (D.tup [.str (eK .wait),.int (x:Int),.int (y:Int),.int t,.int (b':Int)])
   by_cases Az:(x:Int)=(y:Int)
   ·have he:=he Az
    clear mN w0 w1 w3 Eh i0 t0 t1 g1 g2 hm h8 hk b4
    generalize eK .wait=W at *
    walk_at "mir"
   ·have mN:=mN Az
    subst mN
    clear he w0 w1 w3 Eh i0 t0 t1 g1 g2 hm h8 hk b4
    generalize eK .wait=W at *
    walk_at "mir"
  ·refine⟨⟨.back,x,y,t,b'⟩,?_,⟨g1,g2,t0,t1,IK,nofun,λ_=>hb⟩,λh=>absurd h (by show¬b'=0;omega)⟩
   unfold fF dB
   show _=some (D.tup [.str (eK .back),.int (x:Int),.int (y:Int),.int t,.int (b':Int)])
   by_cases Az:(x:Int)=(y:Int)
   ·have he:=he Az
    clear mN w0 w1 w2 Eh i0 t0 t1 g1 g2 hm h8 hk b4
    generalize eK .back=W at *
    walk_at "mir"
   ·have mN:=mN Az
    subst mN
    clear he w0 w1 w2 Eh i0 t0 t1 g1 g2 hm h8 hk b4
    generalize eK .back=W at *
    walk_at "mir"
 by_cases Az:(x:Int)=(y:Int)
 ·by_cases hb:b=0
  ·refine big 1 (by decide) (by decide) (λ_=>?_) λh=>absurd Az h
   rw[hb];rfl
  ·refine big b (by omega) b4 (λ_=>?_) λ_=>rfl
   rw[xq]
   split
   ·rfl
   ·congr 2;omega
 ·by_cases hb:b=0
  ·clear big
   subst hb
   rw[z0]at bx
   have n1:uJ [.int (x:Int),.int (y:Int)]=some (.int ((min x y:Nat):Int)):=(uo _ _).trans (by congr 2;split<;>omega)
   have n2:mF [.int (x:Int),.int (y:Int)]=some (.int ((max x y:Nat):Int)):=(xq _ _).trans (by congr 2;split<;>omega)
   have o7:min x y<max x y:=by omega
   have q1:min x y<many:=by omega
   have q2:max x y<many:=by omega
   generalize min x y=p,max x y=q at *
   have pr:(z:Int)/1792%2=0\/(z:Int)/1792%2=1:=by omega
   rcases pr with pr|pr
   ·refine⟨⟨.wait,p,q,t,0⟩,?_,⟨q1,q2,t0,t1,eY _,nofun,nofun⟩,λ_=>o7⟩
    unfold fF dB
    show _=some (D.tup [.str (eK .wait),.int (p:Int),.int (q:Int),.int t,.int 0])
    clear w2 w1 w3 Jk i1 t0 t1 g1 g2 hm h8 hk b4
    generalize eK .wait=W at *
    walk_at "mir"
   ·refine⟨⟨.ride,p,q,t,0⟩,?_,⟨q1,q2,t0,t1,eY _,λ_=>rfl,nofun⟩,λ_=>o7⟩
    unfold fF dB
    show _=some (D.tup [.str (eK .ride),.int (p:Int),.int (q:Int),.int t,.int 0])
    clear w2 w0 w3 Jk i1 t0 t1 g1 g2 hm h8 hk b4
    generalize eK .ride=W at *
    walk_at "mir"
  ·exact big b (by omega) b4 (λh=>absurd h Az) λ_=>rfl
theorem Wr.of {n:Nat}(h:Right n a):Wr n a:=⟨h.s,h.g,h.t0,h.t1,h.b,h.r⟩
theorem yz (c:Nat)(a b:Str)(r:List Str):Str.join (de c) (a::b::r)=(a++de c)++Str.join (de c) (b::r):=by
 apply wg
 rw[join_list,xn,xn,dz]
 rfl
theorem xx (c:Nat):∀(ws:List Str) (w:Str),ws≠[]->Str.join (de c) (ws++[w])=Str.join (de c) ws++de c++w
 |[a],w,_=>by
  show Str.join (de c) (a::w::[])=_
  rw[yz];rfl
 |a::b::r,w,_=>by
  show Str.join (de c) (a::b::(r++[w]))=_
  rw[yz,yz]
  rw[show b::(r++[w])=(b::r)++[w]from rfl,xx c (b::r) w (by simp)]
  apply wg
  simp only[xn,dz]
theorem LD (hn:gD names)(h:Wr names.length a):kL [bO names,dB a]=some (.str (fq names a)):=by
 have i1:=DN h.s
 have i2:=DN h.g
 have st:=ux h.t0 h.t1
 have sb:=ux (t:=(a.b:Int)) (by omega) (by have:=h.b;omega)
 have l1:=(xz (w:=cu names a.s) hn h (by unfold nq;simp)).2.1
 have l2:=(xz (w:=cu names a.g) hn h (by unfold nq;simp)).2.1
 have l3:=(xz (w:=cE a.t) hn h (by unfold nq;simp)).2.1
 have l4:(cE (a.b:Int)).length<=12:=by have:=xl (n:=a.b) (by have:=h.b;omega);omega
 have l0:=K8 a.c
 have er:fq names a=if a.c=.ride then eK a.c++de 32++cu names a.s++de 32++cu names a.g++de 32++cE a.t else eK a.c++de 32++cu names a.s++de 32++cu names a.g++de 32++cE a.t++de 32++cE (a.b:Int):=by
  have e4:∀w x y z:Str,Str.join (de 32) [w,x,y,z]=w++de 32++x++de 32++y++de 32++z:=λw x y z=>by
   rw[show[w,x,y,z]=[w]++[x]++[y]++[z]from rfl,xx _ _ _ (by simp),xx _ _ _ (by simp),xx _ _ _ (by simp)];rfl
  unfold fq nq
  split
  ·rw[cV];exact e4 _ _ _ _
  ·rw[xx _ _ _ (by simp),e4]
 rw[er]
 have ne:=EZ true a.c .ride
 unfold dB
 generalize hw:eK a.c=w0 at *
 generalize cu names a.s=ns,cu names a.g=ng,cE a.t=it,cE (a.b:Int)=ib at *
 have a1:cP (.str w0) (.str (de 32))=some (.str (w0++de 32)):=zx (by rw[qM];omega)
 have a2:cP (.str (w0++de 32)) (.str ns)=some (.str (w0++de 32++ns)):=zx (by simp only[yq,qM];omega)
 have a3:cP (.str (w0++de 32++ns)) (.str (de 32))=some (.str (w0++de 32++ns++de 32)):=zx (by simp only[yq,qM];omega)
 have a4:cP (.str (w0++de 32++ns++de 32)) (.str ng)=some (.str (w0++de 32++ns++de 32++ng)):=zx (by simp only[yq,qM];omega)
 have a5:cP (.str (w0++de 32++ns++de 32++ng)) (.str (de 32))=some (.str (w0++de 32++ns++de 32++ng++de 32)):=zx (by simp only[yq,qM];omega)
 have a6:cP (.str (w0++de 32++ns++de 32++ng++de 32)) (.str it)=some (.str (w0++de 32++ns++de 32++ng++de 32++it)):=zx (by simp only[yq,qM];omega)
 have a7:cP (.str (w0++de 32++ns++de 32++ng++de 32++it)) (.str (de 32))=some (.str (w0++de 32++ns++de 32++ng++de 32++it++de 32)):=zx (by simp only[yq,qM];omega)
 have a8:cP (.str (w0++de 32++ns++de 32++ng++de 32++it++de 32)) (.str ib)=some (.str (w0++de 32++ns++de 32++ng++de 32++it++de 32++ib)):=zx (by simp only[yq,qM];omega)
 rw[←zX]at *
 clear l0 l1 l2 l3 l4 er
 generalize w0 ++ " "++ns ++ " "++ng ++ " "++it ++ " "++ib=b8 at *
 generalize w0 ++ " "++ns ++ " "++ng ++ " "++it ++ " "=b7 at *
 generalize w0 ++ " "++ns ++ " "++ng ++ " "++it=b6 at *
 generalize w0 ++ " "++ns ++ " "++ng ++ " "=b5 at *
 generalize w0 ++ " "++ns ++ " "++ng=b4 at *
 generalize w0 ++ " "++ns ++ " "=b3 at *
 generalize w0 ++ " "++ns=b2 at *
 generalize w0 ++ " "=b1 at *
 have ne:fR true (.str w0) (.str "ride")=some (.bl (!decide (a.c=.ride))):=ne
 generalize bO names=N at *
 unfold kL
 by_cases hr:a.c=.ride
 ·rw[decide_eq_true hr]at ne
  rw[if_pos hr]
  clear hr hw h hn sb
  walk_at "mir"
 ·rw[decide_eq_false hr]at ne
  rw[if_neg hr]
  clear hr hw h hn
  walk_at "mir"
theorem SW (hn:gD names)(hw:∀a∈as,Wr names.length a)(hl:as.length<=200):iO [bO names,.lst (as.map dB)]=some (bO (oY names::as.map (fq names))):=by
 have q1:k9 [some (bO names),some (.lst (as.map dB))]=some (bO (as.map (fq names))):=by
  unfold bO
  rw[eD]
  refine xm dB _ as rfl (by omega) λa ha=>⟨[some (dB a),some (bO names)],rfl,?_⟩
  have r:=LD hn (hw a ha)
  show _=some (D.str (fq names a))
  generalize fq names a=T,bO names=N,dB a=ea at *
  clear hn hw hl
  walk_at "mir"
 have a1:cP (.lst [.str "goings"]) (bO names)=some (bO (("goings":Str)::names)):=yk (by have:=hn.le;simp;omega)
 have h1:=E1 hn
 have a2:cP (.lst [.str (oY names)]) (bO (as.map (fq names)))=some (bO (oY names::as.map (fq names))):=yk (by simp;omega)
 generalize bO (oY names::as.map (fq names))=L1,bO (as.map (fq names))=L2,bO (("goings":Str)::names)=L3,bO names=N at *
 generalize oY names=HD,as.map dB=EA at *
 unfold iO
 generalize k9=Q at *
 clear hn hw hl
 walk_at "mir"
theorem Lc (c:Int)(hm:many<=8):∃ns:List Str,iX [.int c,.int (many:Int)]=some (bO ns)/\ns.length=many/\gD ns:=by
 obtain⟨sz,hsz,A6,Gi⟩:∃s:Nat,1+c%8=(s:Int)/\1<=s/\s<=8:=⟨(1+c%8).toNat,by omega,by omega,by omega⟩
 obtain⟨a,ha,has⟩:∃a:Nat,c/8%(sz:Int)=(a:Int)/\a<sz:=by
  have a1:=jK (c/8) (show(sz:Int)≠0 by omega)
  have a2:=ik (c/8) (show(0:Int)<(sz:Int)by omega)
  exact⟨(c/8%(sz:Int)).toNat,by omega,by omega⟩
 have ad:cP (.str "abcdefghijklmnopqrstuvwxyz") (.str "0123456789")=some (.str ("abcdefghijklmnopqrstuvwxyz" ++ "0123456789")):=zx (by decide +kernel)
 have md:eU (.int (c/8)) (.int (sz:Int))=some (.int (a:Int)):=by rw[yf (by omega),ha]
 have r1:=ur (j:=(many:Int)) (by omega) (by omega)
 rw[fJ]at r1
 obtain⟨y7,y8,y9,xL,h1⟩:=SO c (a:=a) hm Gi
 refine⟨lD c a sz many,?_,by unfold lD;rw[bN,dI],SU c has Gi hm⟩
 unfold iX
 generalize bO (lD c a sz many)=L1,("abcdefghijklmnopqrstuvwxyz" ++ "0123456789":Str)=B,("abcdefghijklmnopqrstuvwxyz":Str)=A at *
 clear A6 Gi has hm ha
 generalize (sz:Int)=SZ,oH 0 many=U,gR=B2 at *
 walk_at "mir"
theorem T3 (hn:gD names)(hw:∀a∈as,Wr names.length a):cx.strOk (rB names (as.map (fq names)))=true:=by
 have o1:cx.strOk (de 32)=true:=by decide +kernel
 have o2:cx.strOk (de 10)=true:=by decide +kernel
 refine EX o2 λy hy=>?_
 rcases bL.mp hy with rfl|hy
 ·exact EX o1 λw hw=>(DM hn hw).2.2
 ·obtain⟨a,ha,rfl⟩:=dJ.mp hy
  exact EX o1 λw xW=>(xz hn (hw a ha) xW).2.2
theorem SX {ys:List Str}(hn:gD names)(hl:ys.length<=300)(h:∀y∈ys,y.length<=600):iJ (.str "\n") (bO (oY names::ys))=some (.str (rB names ys)):=by
 rw[Mm]
 refine DG (b:=600) (λy hy=>?_) (by rw[qM,bM];omega)
 rcases bL.mp hy with rfl|hy
 ·exact HA hn
 ·exact h y hy
theorem Ld (neg:Bool)(w:List Nat):fR neg (.lst (hR w)) (.lst [])=some (.bl (if neg then !decide (w=[])else decide (w=[]))):=by
 have:=(El Ei).eq (by decide) (neg:=neg) (w.map λ(x:Nat)=>(x:Int)) []
 have e:(El Ei).enc (w.map λ(x:Nat)=>(x:Int))=.lst (hR w):=by
  show D.lst ((w.map λ(x:Nat)=>(x:Int)).map D.int)=_
  rw[eD];rfl
 rw[e]at this
 have hd:decide ((w.map λ(x:Nat)=>(x:Int))=[])=decide (w=[]):=decide_eq_decide.mpr (by simp)
 rw[hd]at this
 exact this
noncomputable def fA (st tm:Nat->Nat)(i:Nat):Nat×Nat:=(st i,tm i)
noncomputable def rZ (st tm:Nat->Nat)(cZ m i:Nat):gQ:=if i+1<m then⟨.ride,st i,st (i+1),(tm i:Int),0⟩else⟨.back,st i,st 0,(tm i:Int),cZ⟩
theorem Kf (f:Nat->Nat×Nat):∀n k:Nat,vN ((oK k (n+1)).map f)=(oK k n).map λi=>((f i).1,(f (i+1)).1,(f i).2)
 |0,_=>rfl
 |n+1,k=>by
  rw[iR,iR,cn,cn]
  show _::vN (f (k+1)::(oK (k+1+1) n).map f)=_
  rw[←cn,←iR,Kf f n (k+1),iR,cn]
theorem P5 (st tm:Nat->Nat)(cZ m:Nat):∃p dW,(cC (m+1)).map (fA st tm)=p::dW/\dW.length=m/\xY cZ p dW=(cC (m+1)).map (rZ st tm cZ (m+1)):=by
 have e:(cC (m+1)).map (fA st tm)=fA st tm 0::(cC m).map λi=>fA st tm (i+1):=by
  rw[rR,cn,eD];rfl
 refine⟨_,_,e,by rw[bN,dI],?_⟩
 have gl:(fA st tm 0::(cC m).map λi=>fA st tm (i+1)).getLast (by simp)=fA st tm m:=by
  simp only[←e]
  rw[List.getLast_map,List.getLast_range]
  rfl
 unfold xY
 rw[gl,←e,i7,Kf,eD,←i7,←i7,jG,cW]
 congr 1
 ·refine List.map_congr_left λi hi=>?_
  have:=di.mp hi
  unfold rZ
  rw[if_pos (by omega)]
  rfl
 ·show _=[rZ st tm cZ (m+1) m]
  unfold rZ
  rw[if_neg (by omega)]
  rfl
theorem QF (names:List Str)(cZ:Nat)(l:List (Nat×Nat))(p:Nat×Nat):Str.join (de 32) (jI names cZ (l++[p]))=Str.join (de 32) (jI names cZ l)++de 32++cu names p.1++de 32++cE (p.2:Int):=by
 have e:jI names cZ (l++[p])=jI names cZ l++[cu names p.1]++[cE (p.2:Int)]:=by
  unfold jI wA
  rw[List.flatMap_append]
  simp
 rw[e,xx _ _ _ (by simp),xx _ _ _ (by unfold jI;simp)]
theorem SY (hn:gD names)(c:Int)(h1:1<=names.length)(h8:names.length<=8):∃(ws:List Str) (as:List gQ),k6 [.int c,.int (names.length:Int),bO names]=some (.tup [.str (Str.join (de 32) ws),.lst (as.map dB)])/\rX names ws as/\(∃wr:List Str,ws=("line":Str)::wr)/\(∀a∈as,Right names.length a/\(a.b=0->a.s<a.g))/\as.length<=3:=by
 obtain⟨many,lW⟩:∃many,many=names.length:=⟨_,rfl⟩
 rw[←lW]at h1 h8 ⊢
 have q1:k8 [some (.int c),some (.int (many:Int)),some (bO names),none,none,none,none,none,none]=some (.lst (((cC many).filter λ(g:Nat)=>decide ((vC c (g:Int):Int)%2=1)).map λ(g:Nat)=>D.int (g:Int))):=by
  refine qr (λ(g:Nat)=>D.int (g:Int)) _ _ (cC many) (L6 rfl (by omega)) (by simp;omega) λg hg=>⟨[some (.int (g:Int)),some (.int c)],rfl,?_,λ_=>rfl⟩
  have mm:=(R3 c (k:=(g:Int)) (by omega) (by have:=di.mp hg;omega)).1
  generalize vC c (g:Int)=r at *
  clear hg hn
  walk_at "mir"
 obtain⟨S,hS,pS,bS,cS⟩:∃S:List Nat,(cC many).filter (λ(g:Nat)=>decide ((vC c (g:Int):Int)%2=1))=S/\S.Pairwise (· < ·)/\(∀x∈S,x<many)/\S.length<=8:=by
  refine⟨_,rfl,List.pairwise_lt_range.filter _,λx hx=>di.mp (d9.mp hx).1,?_⟩
  exact dC (List.length_filter_le _ _) (by rw[dI];exact h8)
 rw[hS]at q1
 clear hS
 have sl:dP (.lst (S.map λ(g:Nat)=>D.int (g:Int))) none (some 3)=some (.lst ((S.take 3).map λ(g:Nat)=>D.int (g:Int))):=by
  show some (D.lst (cutD _ none (some ((3:Nat):Int))))=_
  rw[J8,Ae]
 have pS:(S.take 3).Pairwise (· < ·):=pS.sublist (vT _ _)
 have bS:∀x∈S.take 3,x<many:=λx hx=>bS x (jA hx)
 have cS:(S.take 3).length<=3:=by rw[dR];omega
 generalize S.take 3=S5 at *
 have u1:eU (.int c) (.int (many:Int))=some (.int (((c%(many:Int)).toNat:Nat):Int)):=by
  rw[yf (by omega),gY (jK _ (by omega))]
 have g1:(c%(many:Int)).toNat<many:=by
  have:=ik c (show(0:Int)<(many:Int)by omega)
  omega
 generalize (c%(many:Int)).toNat=x at *
 obtain⟨T,Iq,pT,bT,cT⟩:∃T:List Nat,sIf (tb (e2 (fR false) (eV 3) (λρ=>(aNil ρ).bind λds=>some (.lst ds)))) (sSet 3 (λρ=>((aCons (e2 eU (eV 0) (eV 1)) aNil) ρ).bind λds=>some (.lst ds))) sSkip [some (.int c),some (.int (many:Int)),some (bO names),some (.lst (S5.map λ(g:Nat)=>D.int (g:Int))),none,none,none,none,none]=some (.nx [some (.int c),some (.int (many:Int)),some (bO names),some (.lst (T.map λ(g:Nat)=>D.int (g:Int))),none,none,none,none,none])/\T.Pairwise (· < ·)/\(∀x∈T,x<many)/\1<=T.length/\T.length<=3:=by
  cases S5 with
  |nil=>
   refine⟨[x],?_,List.pairwise_singleton _ _,λy hy=>by rw[cj.mp hy];exact g1,bY 1,by simp⟩
   have e:fR false (.lst []) (.lst [])=some (.bl true):=Ld false []
   generalize bO names=N at *
   clear sl q1 bS pS cS lW
   walk_at "mir"
  |cons y ys=>
   refine⟨y::ys,?_,pS,bS,by simp,cS⟩
   have e:fR false (.lst ((y::ys).map λ(g:Nat)=>D.int (g:Int))) (.lst [])=some (.bl false):=Ld false (y::ys)
   generalize (y::ys).map (λ(g:Nat)=>D.int (g:Int))=L,bO names=N at *
   clear sl q1 bS pS cS lW
   walk_at "mir"
 clear pS bS cS
 obtain⟨cZ,IM,D4,IL⟩:∃cZ:Nat,1+c%4=(cZ:Int)/\1<=cZ/\cZ<=4:=⟨(1+c%4).toNat,by omega,by omega,by omega⟩
 obtain⟨st,mj⟩:∃st:Nat->Nat,∀i,st i=T.getD i 0:=⟨_,λ_=>rfl⟩
 have key:∀j:Nat,∃t:Nat,j<=3->∃mo:Int,et [.int c,.int (9+(j:Int))]=some (.int mo)/\eU (.int mo) (.int 1000)=some (.int (t:Int))/\t<=1000:=λj=>by
  by_cases hj:j<=3
  ·obtain⟨mo,hm,_⟩:=jb c (k:=9+(j:Int)) (by omega) (by omega)
   exact⟨mo%1000,λ_=>⟨mo,hm,by rw[yf (by decide)];simp,by omega⟩⟩
  ·exact⟨0,λh=>absurd h hj⟩
 obtain⟨tm,A7⟩:=Classical.axiomOfChoice key
 have stx:∀i,i<T.length->dY (.lst (T.map λ(g:Nat)=>D.int (g:Int))) (.int (i:Int))=some (.int (st i:Int)):=λi hi=>yp (by
  rw[c9,cz hi,mj,dM,cz hi];rfl)
 have xJ:∀i,i<T.length->st i<many:=λi hi=>by
  rw[mj,dM,cz hi]
  exact bT _ (ot hi)
 have Eu:∀i,i+1<T.length->st i<st (i+1):=λi hi=>by
  rw[mj,mj,dM,dM,cz (by omega),cz hi]
  exact List.pairwise_iff_getElem.mp pT i (i+1) (by omega) hi (by omega)
 have lT:eO [.lst (T.map λ(g:Nat)=>D.int (g:Int))]=some (.int (T.length:Int)):=(xg _).trans (by rw[bN])
 clear mj pT bT
 have DW:∀i,i<T.length->Right many (rZ st tm cZ T.length i)/\((rZ st tm cZ T.length i).b=0->(rZ st tm cZ T.length i).s<(rZ st tm cZ T.length i).g):=λi hi=>by
  obtain⟨_,_,_,ht⟩:=A7 i (by omega)
  unfold rZ
  split
  ·rename_i h
   exact⟨⟨xJ i hi,xJ _ h,nv _,by show(tm i:Int)<=_;omega,eY _,λ_=>rfl,nofun⟩,λ_=>Eu i h⟩
  ·exact⟨⟨xJ i hi,xJ 0 (by omega),nv _,by show(tm i:Int)<=_;omega,IL,nofun,λ_=>D4⟩,λh=>absurd h (by show¬cZ=0;omega)⟩
 have sc:=ux (t:=(cZ:Int)) (by omega) (by omega)
 have lc:(cE (cZ:Int)).length<=10:=xl (by omega)
 have ac:cP (.str "line ") (.str (cE (cZ:Int)))=some (.str (Str.join (de 32) (jI names cZ []))):=by
  have e:Str.join (de 32) (jI names cZ []) = "line "++cE (cZ:Int):=by
   show Str.join (de 32) ("line"::cE (cZ:Int)::[])=_
   rw[yz]
   have:("line":Str)++de 32 = "line ":=by decide +kernel
   rw[this];rfl
  rw[e]
  have:("line ":Str).length=5:=by decide +kernel
  exact zx (by omega)
 have zH:∀n,n<=3->n<=T.length->(Str.join (de 32) (jI names cZ ((cC n).map (fA st tm)))).length<=1000:=λn h5 hT=>by
  have:=uz (b:=12) (ws:=jI names cZ ((cC n).map (fA st tm))) (λw hw=>by
   rcases bL.mp hw with rfl|hw
   ·decide
   ·rcases bL.mp hw with rfl|hw
    ·omega
    ·obtain⟨q,hq,hw⟩:=wG.mp hw
     obtain⟨i,hi,rfl⟩:=dJ.mp hq
     have hi:=di.mp hi
     simp only[bL,cH,or_false]at hw
     rcases hw with rfl|rfl
     ·have n1:=hn.ok _ (xy (i:=st i) (by rw[←lW];exact xJ i (by omega)))
      have:=jc n1
      show(cu names (st i)).length<=12
      omega
     ·obtain⟨_,_,_,ht⟩:=A7 i (by omega)
      have:=xl (n:=tm i) (by omega)
      show(cE (tm i:Int)).length<=12
      omega) 32
  have hl:(jI names cZ ((cC n).map (fA st tm))).length=2*n+2:=by
   show(wA names _).length+1+1=_
   rw[Hy,bN,dI]
  omega
 have r1:=ur (j:=(T.length:Int)) (by omega) (by omega)
 rw[fJ]at r1
 obtain⟨ρ',lp,y7,y8,rfl⟩:=vm (g:=gV 7) (b:=ip) (lo:=0) (n:=T.length) (ρ:=[some (.int c),some (.int (many:Int)),some (bO names),some (.lst (T.map λ(g:Nat)=>D.int (g:Int))),some (.int (cZ:Int)),some (.str (Str.join (de 32) (jI names cZ []))),some (.lst []),none,none])
  (λn ρ=>∃y7 y8:Option D,ρ=[some (.int c),some (.int (many:Int)),some (bO names),some (.lst (T.map λ(g:Nat)=>D.int (g:Int))),some (.int (cZ:Int)),some (.str (Str.join (de 32) (jI names cZ ((cC n).map (fA st tm))))),some (.lst ((cC n).map λi=>dB (rZ st tm cZ T.length i))),y7,y8]) ⟨none,none,rfl⟩ (by
   rintro j ρ hj ⟨y7,y8,rfl⟩
   obtain⟨mo,e1,DZ,e3⟩:=A7 j (by omega)
   have x1:=stx j hj
   have x0:=stx 0 (by omega)
   have x0:dY (.lst (T.map λ(g:Nat)=>D.int (g:Int))) (.int 0)=some (.int (st 0:Int)):=x0
   have i1:=DN (names:=names) (i:=st j) (by rw[←lW];exact xJ j hj)
   have ss:=ux (t:=(tm j:Int)) (by omega) (by omega)
   have lr:=zH j (by omega) (by omega)
   have nl:=(jc (hn.ok _ (xy (i:=st j) (by rw[←lW];exact xJ j hj)))).2
   have tl:=xl (n:=tm j) (by omega)
   have es:Str.join (de 32) (jI names cZ ((cC (j+1)).map (fA st tm)))=Str.join (de 32) (jI names cZ ((cC j).map (fA st tm)))++de 32++cu names (st j)++de 32++cE (tm j:Int):=by
    rw[jG,cW]
    exact QF _ _ _ _
   refine⟨_,_,rfl,.inl ?_,some (.int (j:Int)),some (.int (tm j:Int)),rfl⟩
   rw[nP,es]
   have ep:(cC (j+1)).map (λi=>dB (rZ st tm cZ T.length i))=(cC j).map (λi=>dB (rZ st tm cZ T.length i))++[dB (rZ st tm cZ T.length j)]:=by
    rw[jG,cW];rfl
   have jM:((cC j).map λi=>dB (rZ st tm cZ T.length i)).length<16777216:=by rw[bN,dI];omega
   rw[ep]
   clear ep es
   generalize (cC j).map (λi=>dB (rZ st tm cZ T.length i))=L1,Str.join (de 32) (jI names cZ ((cC j).map (fA st tm)))=b0,cu names (st j)=nj,cE (tm j:Int)=it at *
   have a1:cP (.str b0) (.str (de 32))=some (.str (b0++de 32)):=zx (by rw[qM];omega)
   have a2:cP (.str (b0++de 32)) (.str nj)=some (.str (b0++de 32++nj)):=zx (by simp only[yq,qM];omega)
   have a3:cP (.str (b0++de 32++nj)) (.str (de 32))=some (.str (b0++de 32++nj++de 32)):=zx (by simp only[yq,qM];omega)
   have a4:cP (.str (b0++de 32++nj++de 32)) (.str it)=some (.str (b0++de 32++nj++de 32++it)):=zx (by simp only[yq,qM];omega)
   rw[←zX]at a1 a2 a3 a4 ⊢
   generalize b0 ++ " "++nj ++ " "++it=b4 at *
   generalize b0 ++ " "++nj ++ " "=b3 at *
   generalize b0 ++ " "++nj=b2 at *
   generalize b0 ++ " "=b1 at *
   unfold rZ
   by_cases hl:j+1<T.length
   ·rw[if_pos hl]
    have x2:=stx (j+1) hl
    have ej:(j:Int)+1=((j+1:Nat):Int):=by omega
    rw[←ej]at x2
    have o7:(j:Int)<(T.length:Int)-1:=by omega
    show _=some (Out.nx [_,_,_,_,_,_,some (.lst (L1++[.tup [.str "ride",.int (st j:Int),.int (st (j+1):Int),.int (tm j:Int),.int 0]])),_,_])
    generalize T.map (λ(g:Nat)=>D.int (g:Int))=TL,bO names=N,(T.length:Int)=Jw at *
    clear A7 stx xJ Eu DW zH r1 hn ac sc lc lr nl tl e3 Iq q1 sl u1 ej hl key hj cT
    unfold ip
    walk_at "mir"
   ·rw[if_neg hl]
    have o7:¬(j:Int)<(T.length:Int)-1:=by omega
    show _=some (Out.nx [_,_,_,_,_,_,some (.lst (L1++[.tup [.str "back",.int (st j:Int),.int (st 0:Int),.int (tm j:Int),.int (cZ:Int)]])),_,_])
    generalize T.map (λ(g:Nat)=>D.int (g:Int))=TL,bO names=N,(T.length:Int)=Jw at *
    clear A7 stx xJ Eu DW zH r1 hn ac sc lc lr nl tl e3 Iq q1 sl u1 hl key hj cT
    unfold ip
    walk_at "mir")
 obtain⟨m,hm⟩:∃m,T.length=m+1:=⟨T.length-1,by omega⟩
 obtain⟨p,dW,ps,Nz,ea⟩:=P5 st tm cZ m
 rw[←hm]at ps ea
 refine⟨jI names cZ (p::dW),xY cZ p dW,?_,Us hn IL (by omega) (λq hq=>?_),⟨_,rfl⟩,λa ha=>?_,by rw[ea,bN,dI];omega⟩
 ·rw[ps,show((cC T.length).map λi=>dB (rZ st tm cZ T.length i))=(xY cZ p dW).map dB by rw[ea,eD];rfl]at lp
  generalize (xY cZ p dW).map dB=L1,Str.join (de 32) (jI names cZ (p::dW))=R1,Str.join (de 32) (jI names cZ [])=R0,S.map (λ(g:Nat)=>D.int (g:Int))=SL at *
  generalize S5.map (λ(g:Nat)=>D.int (g:Int))=UX at *
  generalize T.map (λ(g:Nat)=>D.int (g:Int))=TL,bO names=N,(T.length:Int)=Jw,oH 0 T.length=up,cE (cZ:Int)=ic at *
  unfold k6
  generalize k8=Q,ip=B,sIf (tb (e2 (fR false) (eV 3) (λρ=>(aNil ρ).bind λds=>some (.lst ds)))) (sSet 3 (λρ=>((aCons (e2 eU (eV 0) (eV 1)) aNil) ρ).bind λds=>some (.lst ds))) sSkip=I1 at *
  clear A7 stx xJ Eu DW zH hn lc key cT hm ps ea Nz lW
  walk_at "mir"
 ·rw[←ps]at hq
  obtain⟨i,hi,rfl⟩:=dJ.mp hq
  have hi:=di.mp hi
  obtain⟨_,_,_,ht⟩:=A7 i (by omega)
  exact⟨by rw[←lW];exact xJ i hi,by show tm i<=_;omega⟩
 ·rw[ea]at ha
  obtain⟨i,hi,rfl⟩:=dJ.mp ha
  exact DW i (di.mp hi)
noncomputable def dk (nt tb pt:D)(n:Int):D:=.obj 6 ["net","table","puts","answered"] [nt,tb,pt,.int n]
theorem tH:gS 6 []=some (dk .non .non (.lst []) 0):=by
 unfold gS
 rfl
variable {nt pt tb:D}
section
variable {d:D}{n:Int}{r:L3.Env}{f:EF}
theorem Lq (h:f (some (dk nt tb pt n)::r)=some d):iY 0 [5,6] "net" f (some (dk nt tb pt n)::r)=some (.nx (some (dk d tb pt n)::r)):=by
 unfold iY
 rw[h]
 rfl
theorem Kg (h:f (some (dk nt tb pt n)::r)=some d):iY 0 [6] "table" f (some (dk nt tb pt n)::r)=some (.nx (some (dk nt d pt n)::r)):=by
 unfold iY
 rw[h]
 rfl
theorem QG (h:f (some (dk nt tb pt n)::r)=some d):iY 0 [6] "puts" f (some (dk nt tb pt n)::r)=some (.nx (some (dk nt tb d n)::r)):=by
 unfold iY
 rw[h]
 rfl
theorem S4:uK 0 [6] "answered" (eC (.int 1)) (some (dk nt tb pt n)::r)=some (.nx (some (dk nt tb pt (n+1))::r)):=rfl
end
theorem T4 {bs:List gQ}{n:Int}(ok:ll names.length bs)(hn:gD names)(h1:names≠[]):d7 [dk (cN (names.map .str) as) tb pt n,.lst (bs.map cA)]=some (.tup [.str "ok",dk (cN (names.map .str) bs) .non pt n]):=by
 have nt:=Ml (ns:=names.map .str) ok (by rw[bN]) (Kn hn h1)
 have f1:dc [4] "names" (cN (names.map .str) as)=some (.lst (names.map .str)):=rfl
 have f2:dc [5,6] "net" (dk (cN (names.map .str) as) tb pt n)=some (cN (names.map .str) as):=rfl
 generalize cN (names.map .str) as=n1,cN (names.map .str) bs=n2 at *
 generalize names.map D.str=N,bs.map cA=B at *
 have p1:=Lq (f:=λρ=>((aCons (e1 (dc [4] "names") (e1 (dc [5,6] "net") (eV 0))) (aCons (eV 1) aNil)) ρ).bind λds=>ez 4 (ds++[])) (nt:=n1) (tb:=tb) (pt:=pt) (n:=n) (r:=[some (.lst B)]) (d:=n2) (by clear ok hn h1;walk_at "mid")
 have p2:=Kg (f:=eC .non) (nt:=n2) (tb:=tb) (pt:=pt) (n:=n) (r:=[some (.lst B)]) (d:=.non) rfl
 unfold d7
 clear ok hn h1 nt f1 f2
 generalize (λρ:L3.Env=>((aCons (e1 (dc [4] "names") (e1 (dc [5,6] "net") (eV 0))) (aCons (eV 1) aNil)) ρ).bind λds=>ez 4 (ds++[]))=FN at *
 generalize iY 0 [5,6] "net" FN=S1,iY 0 [6] "table" (eC .non)=S2 at *
 walk_at "mid"
theorem Qm {n:Int}(hn:gD names)(h1:names≠[]):gW [dk nt tb pt n,bO ("goings"::names)]=some (.tup [.str "ok",dk (cN (names.map .str) []) .non (.lst []) n]):=by
 have nw:=Ml (ns:=names.map .str) (as:=[]) ⟨eQ.mpr h1,hn.le,by simp,nofun,id,nofun⟩ (by rw[bN]) (Kn hn h1)
 have s1:dP (bO ("goings"::names)) (some 1) none=some (.lst (names.map .str)):=by
  show some (D.lst (cutD _ (some ((1:Nat):Int)) none))=_
  rw[wn];rfl
 replace nw:ez 4 [.lst (names.map .str),.lst []]=some (cN (names.map .str) []):=nw
 generalize cN (names.map .str) []=n2 at *
 generalize names.map D.str=N,bO ("goings"::names)=L at *
 have p1:=Lq (f:=λρ=>((aCons (λρ=>((eV 1) ρ).bind λd=>((pInt (eC (.int 1))) ρ).bind λl=>(pNo ρ).bind λh=>dP d l h) (aCons (λρ=>(aNil ρ).bind λds=>some (.lst ds)) aNil)) ρ).bind λds=>ez 4 (ds++[])) (nt:=nt) (tb:=tb) (pt:=pt) (n:=n) (r:=[some L]) (d:=n2) (by clear hn h1;walk_at "mid")
 have p2:=Kg (f:=eC .non) (nt:=n2) (tb:=tb) (pt:=pt) (n:=n) (r:=[some L]) (d:=.non) rfl
 have p3:=QG (f:=λρ=>(aNil ρ).bind λds=>some (.lst ds)) (nt:=n2) (tb:=.non) (pt:=pt) (n:=n) (r:=[some L]) (d:=.lst []) rfl
 unfold gW
 clear hn h1 nw s1
 generalize (λρ:L3.Env=>((aCons (λρ=>((eV 1) ρ).bind λd=>((pInt (eC (.int 1))) ρ).bind λl=>(pNo ρ).bind λh=>dP d l h) (aCons (λρ=>(aNil ρ).bind λds=>some (.lst ds)) aNil)) ρ).bind λds=>ez 4 (ds++[]))=FN at *
 generalize iY 0 [5,6] "net" FN=S1,iY 0 [6] "table" (eC .non)=S2,iY 0 [6] "puts" (λρ=>(aNil ρ).bind λds=>some (.lst ds))=S3 at *
 walk_at "mid"
variable {wr:List Str}
section
variable {bs:List gQ}{n:Int}
theorem Ia {gs:L3.Env->Option (List D)}{r:L3.Env}(ok:ll names.length bs)(hn:gD names)(h1:names≠[])(h:gs (some (dk (cN (names.map .str) as) tb pt n)::r)=some [.lst (bs.map cA)]):mE 0 gs d7 (some (dk (cN (names.map .str) as) tb pt n)::r)=some (.str "ok",some (dk (cN (names.map .str) bs) .non pt n)::r):=by
 unfold mE
 rw[h]
 show(if kY (dk (cN (names.map .str) as) tb pt n)=true then(d7 [dk (cN (names.map .str) as) tb pt n,.lst (bs.map cA)]).bind _ else none)=_
 rw[T4 ok hn h1]
 rfl
theorem Qn (ok:ll names.length (as++bs))(hn:gD names)(h1:names≠[])(hr:rX names ws bs):eA [dk (cN (names.map .str) as) tb pt n,bO ws]=some (.tup [.str "ok",dk (cN (names.map .str) (as++bs)) .non pt n]):=by
 have f1:dc [4] "names" (cN (names.map .str) as)=some (bO names):=rfl
 have f3:dc [4] "arrows" (cN (names.map .str) as)=some (.lst (as.map cA)):=rfl
 have f2:dc [5,6] "net" (dk (cN (names.map .str) as) tb pt n)=some (cN (names.map .str) as):=rfl
 have ar:=hr.arr
 have ad:cP (.lst (as.map cA)) (.lst (bs.map cA))=some (.lst ((as++bs).map cA)):=by
  rw[cW]
  refine yk ?_
  have:=ok.len
  rw[cv]at this
  simp only[bN]
  omega
 have ct:=Ia (as:=as) (tb:=tb) (pt:=pt) (n:=n) (gs:=aCons (e2 cP (e1 (dc [4] "arrows") (e1 (dc [5,6] "net") (eV 0))) (λρ=>((aCons (eV 1) (aCons (e1 (dc [4] "names") (e1 (dc [5,6] "net") (eV 0))) aNil)) ρ).bind λds=>eo (ds++[]))) aNil) (r:=[some (bO ws)]) ok hn h1 (by
  generalize cN (names.map .str) as=n1 at *
  generalize dk n1 tb pt n=d1,as.map cA=A,bs.map cA=B,(as++bs).map cA=AB,bO names=N,bO ws=W at *
  clear ok hn h1 hr
  walk_at "mid")
 unfold eA
 generalize mE 0 _ d7=CF,cN (names.map .str) as=n1,cN (names.map .str) (as++bs)=n2 at *
 generalize dk n1 tb pt n=d1,dk n2 .non pt n=d2 at *
 clear ok hn h1 hr f1 f2 f3 ar ad
 walk_at "mid"
theorem Ib (xs:List α)(j:Nat)(f:α->D):dP (.lst (xs.map f)) none (some (j:Int))=some (.lst ((xs.take j).map f))/\dP (.lst (xs.map f)) (some ((j:Int)+1)) none=some (.lst ((xs.drop (j+1)).map f)):=by
 constructor
 ·show some (D.lst (cutD _ none (some (j:Int))))=_
  rw[J8,Ae]
 ·show some (D.lst (cutD _ (some ((j+1:Nat):Int)) none))=_
  rw[wn,Ad]
theorem T5 {j:Nat}(hj:j<10000000000)(ok:ll names.length (as.take j++as.drop (j+1)))(hl:as.length<=1000)(hn:gD names)(h1:names≠[]):k7 [dk (cN (names.map .str) as) tb pt n,bO ("cut"::cE (j:Int)::wr)]=some (.tup [.str "ok",dk (cN (names.map .str) (as.take j++as.drop (j+1))) .non pt n]):=by
 have f3:dc [4] "arrows" (cN (names.map .str) as)=some (.lst (as.map cA)):=rfl
 have f2:dc [5,6] "net" (dk (cN (names.map .str) as) tb pt n)=some (cN (names.map .str) as):=rfl
 have x1:dY (bO ("cut"::cE (j:Int)::wr)) (.int 1)=some (.str (cE (j:Int))):=yp (xs:=(("cut":Str)::cE (j:Int)::wr).map D.str) (j:=1) rfl
 have i1:=zY hj
 obtain⟨s1,s2⟩:=Ib as j cA
 have ad:cP (.lst ((as.take j).map cA)) (.lst ((as.drop (j+1)).map cA))=some (.lst ((as.take j++as.drop (j+1)).map cA)):=by
  rw[cW]
  refine yk ?_
  simp only[bN,dR,dQ]
  omega
 have ct:=Ia (as:=as) (tb:=tb) (pt:=pt) (n:=n) (gs:=aCons (e2 cP (λρ=>((e1 (dc [4] "arrows") (e1 (dc [5,6] "net") (eV 0))) ρ).bind λd=>(pNo ρ).bind λl=>((pInt (eV 2)) ρ).bind λh=>dP d l h) (λρ=>((e1 (dc [4] "arrows") (e1 (dc [5,6] "net") (eV 0))) ρ).bind λd=>((pInt (e2 cP (eV 2) (eC (.int 1)))) ρ).bind λl=>(pNo ρ).bind λh=>dP d l h)) aNil) (r:=[some (bO ("cut"::cE (j:Int)::wr)),some (.int (j:Int))]) ok hn h1 (by
  generalize cN (names.map .str) as=n1 at *
  generalize dk n1 tb pt n=d1,as.map cA=A,(as.take j++as.drop (j+1)).map cA=AB,(as.take j).map cA=A1 at *
  generalize (as.drop (j+1)).map cA=A2,bO ("cut"::cE (j:Int)::wr)=W at *
  clear ok hn h1 i1 x1 hj hl
  generalize (j:Int)=J at *
  walk_at "mid")
 unfold k7
 generalize mE 0 _ d7=CF,cN (names.map .str) as=n1,cN (names.map .str) (as.take j++as.drop (j+1))=n2 at *
 generalize dk n1 tb pt n=d1,dk n2 .non pt n=d2,bO ("cut"::cE (j:Int)::wr)=W at *
 clear ok hn h1 hl hj f2 f3 ad s1 s2
 generalize cE (j:Int)=ij at *
 generalize (j:Int)=J at *
 walk_at "mid"
end
noncomputable def gQ.at (a:gQ)(t:Int):gQ:={ a with t:=t }
theorem T6 (a:gQ)(h:a.c=.ride->a.b=0)(t:Int):fW [cA a,.int t]=some (cA (a.at t)):=by
 have r1:∀s g t:Int,gq 1 [.int s,.int g,.int t]=some (.obj 1 ["start","goal","time","behind"] [.int s,.int g,.int t,.int 0]):=λ_ _ _=>rfl
 have r2:∀s g t b:Int,gU 2 [.int s,.int g,.int t,.int b]=some (.obj 2 ["start","goal","time","behind"] [.int s,.int g,.int t,.int b]):=λ_ _ _ _=>rfl
 have r3:∀s g t b:Int,fI 3 [.int s,.int g,.int t,.int b]=some (.obj 3 ["start","goal","time","behind"] [.int s,.int g,.int t,.int b]):=λ_ _ _ _=>rfl
 have f1:=fs a
 have f2:=fg a
 have f4:=fb a
 have hi:=λall sub=>isA all sub a
 obtain⟨c,s,g,t0,b⟩:=a
 cases c
 ·have hb:b=0:=h rfl
  have e:cA (gQ.at ⟨.ride,s,g,t0,b⟩ t)=.obj 1 ["start","goal","time","behind"] [.int (s:Int),.int (g:Int),.int t,.int 0]:=by rw[hb];rfl
  rw[e]
  have hn:Kd.ride.n=1:=rfl
  generalize cA ⟨.ride,s,g,t0,b⟩=ea at *
  clear h e hb f4
  unfold fW
  walk_at "mid"
 ·have e:cA (gQ.at ⟨.wait,s,g,t0,b⟩ t)=.obj 2 ["start","goal","time","behind"] [.int (s:Int),.int (g:Int),.int t,.int (b:Int)]:=rfl
  rw[e]
  have hn:Kd.wait.n=2:=rfl
  generalize cA ⟨.wait,s,g,t0,b⟩=ea at *
  clear h e
  unfold fW
  walk_at "mid"
 ·have e:cA (gQ.at ⟨.back,s,g,t0,b⟩ t)=.obj 3 ["start","goal","time","behind"] [.int (s:Int),.int (g:Int),.int t,.int (b:Int)]:=rfl
  rw[e]
  have hn:Kd.back.n=3:=rfl
  generalize cA ⟨.back,s,g,t0,b⟩=ea at *
  clear h e
  unfold fW
  walk_at "mid"
section
variable {bs:List gQ}{n:Int}
theorem Qo {j t:Nat}(hj:j<10000000000)(ht:t<10000000000)(ha:as[j]?=some a)(hb:a.c=.ride->a.b=0)(ok:ll names.length (as.set j (a.at t)))(hn:gD names)(h1:names≠[]):iQ [dk (cN (names.map .str) as) tb pt n,bO ("change"::cE (j:Int)::cE (t:Int)::wr)]=some (.tup [.str "ok",dk (cN (names.map .str) (as.set j (a.at t))) .non pt n]):=by
 have f3:dc [4] "arrows" (cN (names.map .str) as)=some (.lst (as.map cA)):=rfl
 have f2:dc [5,6] "net" (dk (cN (names.map .str) as) tb pt n)=some (cN (names.map .str) as):=rfl
 have l1:n9 [.lst (as.map cA)]=some (.lst (as.map cA)):=rfl
 have x1:dY (bO ("change"::cE (j:Int)::cE (t:Int)::wr)) (.int 1)=some (.str (cE (j:Int))):=yp (xs:=(("change":Str)::cE (j:Int)::cE (t:Int)::wr).map D.str) (j:=1) rfl
 have x2:dY (bO ("change"::cE (j:Int)::cE (t:Int)::wr)) (.int 2)=some (.str (cE (t:Int))):=yp (xs:=(("change":Str)::cE (j:Int)::cE (t:Int)::wr).map D.str) (j:=2) rfl
 have i1:=zY hj
 have i2:=zY ht
 have xa:dY (.lst (as.map cA)) (.int (j:Int))=some (cA a):=yp (by rw[c9,ha];rfl)
 have wt:=T6 a hb t
 have o7:j<as.length:=(cB.mp ha).1
 have ct:=Ia (as:=as) (tb:=tb) (pt:=pt) (n:=n) (gs:=aCons (eV 2) aNil) (r:=[some (bO ("change"::cE (j:Int)::cE (t:Int)::wr)),some (.lst ((as.set j (a.at t)).map cA)),some (.int (j:Int))]) ok hn h1 rfl
 have pl:si 2 (eV 3) (λρ=>((aCons (e2 dY (eV 2) (eV 3)) (aCons (eN kK (aCons (e2 dY (eV 1) (eC (.int 2))) aNil)) aNil)) ρ).bind λds=>fW (ds++[])) [some (dk (cN (names.map .str) as) tb pt n),some (bO ("change"::cE (j:Int)::cE (t:Int)::wr)),some (.lst (as.map cA)),some (.int (j:Int))]=some (.nx [some (dk (cN (names.map .str) as) tb pt n),some (bO ("change"::cE (j:Int)::cE (t:Int)::wr)),some (.lst ((as.set j (a.at t)).map cA)),some (.int (j:Int))]):=by
  have ev:(λρ:L3.Env=>((aCons (e2 dY (eV 2) (eV 3)) (aCons (eN kK (aCons (e2 dY (eV 1) (eC (.int 2))) aNil)) aNil)) ρ).bind λds=>fW (ds++[])) [some (dk (cN (names.map .str) as) tb pt n),some (bO ("change"::cE (j:Int)::cE (t:Int)::wr)),some (.lst (as.map cA)),some (.int (j:Int))]=some (cA (a.at t)):=by
   generalize dk (cN (names.map .str) as) tb pt n=d1,as.map cA=A,bO ("change"::cE (j:Int)::cE (t:Int)::wr)=W,cA (a.at t)=DZ,cA a=MC at *
   clear ok hn h1 ct f2 f3 hb ha o7 i1 x1 hj ht
   walk_at "mid"
  unfold si
  rw[ev]
  have hm:pH (as.map cA) ((j:Nat):Int) (cA (a.at t))=some ((as.set j (a.at t)).map cA):=by
   unfold pH ixN
   rw[bN,if_pos (by omega),if_pos (by omega),List.map_set]
   simp
  show(pH (as.map cA) ((j:Nat):Int) (cA (a.at t))).bind _=_
  rw[hm]
  rfl
 unfold iQ
 generalize si 2 (eV 3) _=SP,mE 0 (aCons (eV 2) aNil) d7=CF,cN (names.map .str) as=n1,cN (names.map .str) (as.set j (a.at t))=n2 at *
 generalize dk n1 tb pt n=d1,dk n2 .non pt n=d2,bO ("change"::cE (j:Int)::cE (t:Int)::wr)=W,as.map cA=A,(as.set j (a.at t)).map cA=A2 at *
 clear ok hn h1 hb ha o7 hj ht i2 x2 xa wt
 generalize cE (j:Int)=ij at *
 generalize (j:Int)=J at *
 unfold GB
 walk_at "mid"
theorem Qp {ws:D}(hn:gD names)(hw:∀a∈as,Wr names.length a)(hl:as.length<=200):kZ [dk (cN (names.map .str) as) tb pt n,ws]=some (.tup [.str (rB names (as.map (fq names))),dk (cN (names.map .str) as) tb pt n]):=by
 have sh:=SM hn hw hl
 have f2:dc [5,6] "net" (dk (cN (names.map .str) as) tb pt n)=some (cN (names.map .str) as):=rfl
 generalize rB names (as.map (fq names))=T,cN (names.map .str) as=n1 at *
 generalize dk n1 tb pt n=d1 at *
 clear hn hw hl
 unfold kZ
 walk_at "mid"
end
noncomputable abbrev wK:=Option (Int×Int)
noncomputable def rM:wK->D
 |none=>.non
 |some (l,h)=>.kt [.int l,.int h]
noncomputable def Fits (p:Str×wK):Prop:=∀l h,p.2=some (l,h)->∃n:Nat,p.1=cE (n:Int)/\n<10000000000/\l<=(n:Int)/\(n:Int)<=h
theorem QH {p:Str×wK}(h:Fits p):f7 [.str p.1,rM p.2]=some (.bl true):=by
 obtain⟨w,s⟩:=p
 cases s with
 |none=>
  show f7 [.str w,.non]=_
  have i1:uI false .non .non=some (.bl true):=rfl
  unfold f7
  clear h
  walk_at "mid"
 |some q=>
  obtain⟨l,u⟩:=q
  obtain⟨n,e,hn,h1,h2⟩:=h l u rfl
  have e:w=cE (n:Int):=e
  subst e
  show f7 [.str (cE (n:Int)),.kt [.int l,.int u]]=_
  have i1:uI false (.kt [.int l,.int u]) .non=some (.bl false):=rfl
  have nm:=uw hn
  have ni:=zY hn
  have x0:dY (.kt [.int l,.int u]) (.int 0)=some (.int l):=rfl
  have x1:dY (.kt [.int l,.int u]) (.int 1)=some (.int u):=rfl
  generalize cE (n:Int)=w at *
  unfold f7
  clear h hn
  walk_at "mid"
theorem Kh {α:Type}(f g:α->D):∀xs:List α,oJ (xs.map f) (xs.map g)=xs.map λx=>.tup [f x,g x]
 |[]=>rfl
 |x::xs=>congrArg (D.tup [f x,g x]::·) (Kh f g xs)
variable {ps:List (Str×wK)}{w0:Str}
noncomputable def iG (w0:Str)(ps:List (Str×wK)):List Str:=w0::ps.map (·.1)
theorem Lr:dP (bO (iG w0 ps)) (some 1) none=some (.lst (ps.map λp=>.str p.1)):=by
 show some (D.lst (cutD _ (some ((1:Nat):Int)) none))=_
 rw[wn]
 show some (D.lst ((ps.map (·.1)).map D.str))=_
 rw[eD];rfl
theorem Bw {r:List Str}:dY (bO (w0::r)) (.int 0)=some (.str w0):=yp (xs:=(w0::r).map D.str) (j:=0) rfl
theorem Ko:zZ [.lst (ps.map λp=>.str p.1),.kt (ps.map λp=>rM p.2)]=some (ps.map λp=>.tup [.str p.1,rM p.2]):=congrArg some (Kh _ _ ps)
theorem T7 (hk:BP eJ (.str w0)=some (.kt (ps.map λp=>rM p.2)))(hl:ps.length<=100)(hf:∀p∈ps,Fits p):jU [bO (iG w0 ps)]=some (.bl true):=by
 have x0:dY (bO (iG w0 ps)) (.int 0)=some (.str w0):=Bw
 have sl:=Lr (w0:=w0) (ps:=ps)
 have zf:=Ko (ps:=ps)
 have a1:eN kW (aCons jJ aNil) [some (bO (iG w0 ps)),some (.kt (ps.map λp=>rM p.2))]=some (.bl true):=by
  have:jJ [some (bO (iG w0 ps)),some (.kt (ps.map λp=>rM p.2))]=some (.lst (ps.map λ_=>D.bl true)):=by
   refine xm (λp:Str×wK=>D.tup [.str p.1,rM p.2]) (λ_=>D.bl true) ps ?_ (by omega) λp hp=>⟨_,rfl,?_⟩
   ·generalize (ps.map λp=>D.tup [.str p.1,rM p.2])=R at *
    generalize (ps.map λp=>D.str p.1)=R1,D.kt (ps.map λp=>rM p.2)=R2,bO (iG w0 ps)=L at *
    clear hf hl hk x0
    walk_at "mid"
   ·have:=QH (hf p hp)
    generalize rM p.2=S at *
    clear hf hl hk zf sl
    walk_at "mid"
  unfold eN aCons
  rw[this]
  show kW [.lst (ps.map λ_=>D.bl true)]=_
  rw[all_map]
  simp
 have l1:eO [bO (iG w0 ps)]=some (.int ((ps.length:Int)+1)):=(xg _).trans (by unfold iG;simp)
 have l2:eO [.kt (ps.map λp=>rM p.2)]=some (.int (ps.length:Int)):=by
  show some (D.int (((ps.map λp=>rM p.2).length:Nat):Int))=_
  rw[bN]
 unfold jU
 generalize eN kW (aCons jJ aNil)=AA,D.kt (ps.map λp=>rM p.2)=R2,bO (iG w0 ps)=L,(ps.length:Int)=pl at *
 clear hf hl sl zf
 walk_at "mid"
theorem T8 (hk:BP eJ (.str w0)=some (.kt (ps.map λp=>rM p.2)))(hi:pj false eJ (.str w0)=some (.bl true))(hl:ps.length<=100):fG [bO (iG w0 ps)]=some (bO ((ps.filter λp=>p.2.isNone).map (·.1))):=by
 have x0:dY (bO (iG w0 ps)) (.int 0)=some (.str w0):=Bw
 have sl:=Lr (w0:=w0) (ps:=ps)
 have zf:=Ko (ps:=ps)
 have q1:jV [some (bO (iG w0 ps))]=some (bO ((ps.filter λp=>p.2.isNone).map (·.1))):=by
  unfold bO
  rw[eD]
  refine qr (λp:Str×wK=>D.tup [.str p.1,rM p.2]) (λp=>p.2.isNone) (λp=>D.str p.1) ps ?_ (by omega) λp hp=>⟨_,rfl,?_,λ_=>rfl⟩
  ·generalize (ps.map λp=>D.tup [.str p.1,rM p.2])=R at *
   generalize (ps.map λp=>D.str p.1)=R1,D.kt (ps.map λp=>rM p.2)=R2 at *
   show _=some R
   have e:D.lst ((iG w0 ps).map D.str)=bO (iG w0 ps):=rfl
   rw[e]
   generalize bO (iG w0 ps)=L at *
   clear hl hi e
   walk_at "mid"
  ·obtain⟨w,s⟩:=p
   cases s with
   |none=>rfl
   |some q=>rfl
 generalize bO ((ps.filter λp=>p.2.isNone).map (·.1))=R,bO (iG w0 ps)=L at *
 unfold fG
 generalize jV=Q at *
 clear hl sl zf hk
 walk_at "mid"
variable {tbl:D}
section
variable {n:Int}{r:List Str}
theorem Pw {d:D}:iy [d,bO ("goings"::r)]=some (.bl true):=by
 have x0:dY (bO ("goings"::r)) (.int 0)=some (.str "goings"):=Bw
 have e1:fR false (.str "goings") (.str "goings")=some (.bl true):=(xb (yo _) (yo _)).trans (by simp)
 generalize bO ("goings"::r)=L at *
 unfold iy
 walk_at "mid"
structure Wd (w0:Str)(g p:Bool):Prop where
 ok:cx.strOk w0=true
 ng:¬w0 = "goings"
 np:¬w0 = "plan"
 pl:inD false (.str w0) fQ=some (.bl p)
 fo:(eJ.lookup w0).isSome=g
theorem Wd.eg {g p:Bool}(h:Wd w0 g p)(neg:Bool):fR neg (.str w0) (.str "goings")=some (.bl neg):=by
 rw[xb h.ok (yo _),decide_eq_false h.ng]
 cases neg<;>rfl
theorem Wd.ep {g p:Bool}(h:Wd w0 g p):fR false (.str w0) (.str "plan")=some (.bl false):=by
 rw[xb h.ok (yo _),decide_eq_false h.np]
 rfl
theorem Qq (hw:Wd w0 false false)(hf:ef [bO (w0::r)]=some (.bl true)):iy [dk (cN (names.map .str) as) tbl pt n,bO (w0::r)]=some (.bl true):=by
 have x0:dY (bO (w0::r)) (.int 0)=some (.str w0):=Bw
 have eq1:=hw.eg false
 have eq2:=hw.ep
 have eq3:=hw.pl
 have k1:pj true eJ (.str w0)=some (.bl true):=by
  show some (D.bl (!(eJ.lookup w0).isSome))=_
  rw[hw.fo];rfl
 have f1:dc [5,6] "net" (dk (cN (names.map .str) as) tbl pt n)=some (cN (names.map .str) as):=rfl
 have f2:uI false (cN (names.map .str) as) .non=some (.bl false):=rfl
 unfold iy
 generalize cN (names.map .str) as=n1 at *
 generalize dk n1 tbl pt n=d1,bO (w0::r)=L,fQ=WP,pj true eJ=KI at *
 clear hw
 walk_at "mie"
theorem QI {p:Bool}(hw:Wd w0 true p)(ht:p=true->uI false tbl .non=some (.bl false))(hf:jU [bO (iG w0 ps)]=some (.bl true))(ha:inD true (.str w0) dw=some (.bl true)\/inD true (.str w0) dw=some (.bl false)/\∃(j:Nat) (s:wK) (qs:List (Str×wK)),ps=(cE (j:Int),s)::qs/\j<10000000000/\j<as.length) :
  iy [dk (cN (names.map .str) as) tbl pt n,bO (iG w0 ps)]=some (.bl true):=by
 have x0:dY (bO (iG w0 ps)) (.int 0)=some (.str w0):=Bw
 have eq1:=hw.eg false
 have eq2:=hw.ep
 have eq3:=hw.pl
 have k1:pj true eJ (.str w0)=some (.bl false):=by
  show some (D.bl (!(eJ.lookup w0).isSome))=_
  rw[hw.fo];rfl
 have f1:dc [5,6] "net" (dk (cN (names.map .str) as) tbl pt n)=some (cN (names.map .str) as):=rfl
 have f4:dc [6] "table" (dk (cN (names.map .str) as) tbl pt n)=some tbl:=rfl
 have f5:dc [4] "arrows" (cN (names.map .str) as)=some (.lst (as.map cA)):=rfl
 have f2:uI false (cN (names.map .str) as) .non=some (.bl false):=rfl
 have la:eO [.lst (as.map cA)]=some (.int (as.length:Int)):=(xg _).trans (by rw[bN])
 have last:(eB (bOr (tb (e2 (inD true) (e2 dY (eV 1) (eC (.int 0))) (eC dw))) (tb (e2 rK (eN kK (aCons (e2 dY (eV 1) (eC (.int 1))) aNil)) (eN eO (aCons (e1 (dc [4] "arrows") (e1 (dc [5,6] "net") (eV 0))) aNil)))))) [some (dk (cN (names.map .str) as) tbl pt n),some (bO (iG w0 ps))]=some (.bl true):=by
  rcases ha with ha|⟨ha,j,s,qs,rfl,hj,hl⟩
  ·generalize bO (iG w0 ps)=L at *
   generalize dw=WA at *
   clear hw hf ht eq1 eq2 eq3 k1
   walk_at "mie"
  ·have x1:dY (bO (iG w0 ((cE (j:Int),s)::qs))) (.int 1)=some (.str (cE (j:Int))):=yp (xs:=(iG w0 ((cE (j:Int),s)::qs)).map D.str) (j:=1) rfl
   have i1:=zY hj
   have lt:(j:Int)<(as.length:Int):=by omega
   generalize bO (iG w0 ((cE (j:Int),s)::qs))=L,dw=WA,cN (names.map .str) as=n1 at *
   generalize dk n1 tbl pt n=d1,cE (j:Int)=ij at *
   clear hw hf ht eq1 eq2 eq3 k1 hj hl
   walk_at "mie"
 unfold iy
 generalize (eB (bOr (tb (e2 (inD true) (e2 dY (eV 1) (eC (.int 0))) (eC dw))) (tb (e2 rK (eN kK (aCons (e2 dY (eV 1) (eC (.int 1))) aNil)) (eN eO (aCons (e1 (dc [4] "arrows") (e1 (dc [5,6] "net") (eV 0))) aNil))))))=LA,cN (names.map .str) as=n1 at *
 generalize dk n1 tbl pt n=d1,bO (iG w0 ps)=L,fQ=WP,pj true eJ=KI at *
 clear hw ha la f5
 cases p
 ·clear ht f4
  walk_at "mie"
 ·have ht:=ht rfl
  walk_at "mie"
end
section
variable {xZ qB yB xT:D}{n:Int}
theorem Ik {mf:List D->Option D}(hf:∀w∈w0::wr,pV 32 w)(hl:∀w∈w0::wr,w.length<=20)(hz:wr.length<=1000)(hk:cx.strOk w0=true)(ok:iy [dk nt tbl pt n,bO (w0::wr)]=some (.bl true))
  (told:w0 = "goings"\/∃(tl names:List Str) (as:List gQ),fG [bO (w0::wr)]=some (bO tl)/\(∀x∈tl,x∈names)/\nt=cN (names.map .str) as) (hd:gb.lookup w0=some mf) (hm:mf [dk nt tbl pt n,bO (w0::wr)]=some (.tup [xT,dk xZ qB yB n])) :
  cJ [dk nt tbl pt n,.str (Str.join (de 32) (w0::wr))]=some (.tup [xT,dk xZ qB yB (n+1)]):=by
 have sp:rA (.str (Str.join (de 32) (w0::wr))) (.str " ")=some (bO (w0::wr)):=by
  rw[zX]
  exact SI (b:=20) (by simp) hf hl (by simp only[bM];omega)
 have i1:pf "str" (.str (Str.join (de 32) (w0::wr)))=some (.bl true):=rfl
 have x0:dY (bO (w0::wr)) (.int 0)=some (.str w0):=Bw
 have ch:(sIf (tb (e2 (fR true) (e2 dY (eV 2) (eC (.int 0))) (eC (.str "goings")))) (sDrop (λρ=>((aCons (λρ=>((aCons (eV 2) aNil) ρ).bind λds=>fG (ds++[])) (aCons (e1 (dc [4] "names") (e1 (dc [5,6] "net") (eV 0))) aNil)) ρ).bind λds=>eT (ds++[]))) sSkip) [some (dk nt tbl pt n),some (.str (Str.join (de 32) (w0::wr))),some (bO (w0::wr)),none]=some (.nx [some (dk nt tbl pt n),some (.str (Str.join (de 32) (w0::wr))),some (bO (w0::wr)),none]):=by
  have eg:=xb (neg:=true) hk (yo "goings")
  by_cases hg:w0 = "goings"
  ·rw[decide_eq_true hg]at eg
   generalize bO (w0::wr)=L,Str.join (de 32) (w0::wr)=J,dk nt tbl pt n=d1 at *
   clear hf hl hz told hd hm ok hk hg
   walk_at "mid"
  ·rw[decide_eq_false hg]at eg
   obtain⟨tl,names,as,h1,h2,h3⟩:=told.resolve_left hg
   have rf:=Rb h2
   have f1:dc [5,6] "net" (dk nt tbl pt n)=some nt:=rfl
   have f2:dc [4] "names" nt=some (bO names):=by rw[h3];rfl
   generalize bO (w0::wr)=L,Str.join (de 32) (w0::wr)=J,bO names=N,bO tl=TL,dk nt tbl pt n=d1 at *
   clear hf hl hz told hd hm ok hk hg h2 h3
   walk_at "mid"
 have dp:sSetM 3 (nI 0 (e2 dY (eV 2) (eC (.int 0))) (aCons (eV 2) aNil) gb) [some (dk nt tbl pt n),some (.str (Str.join (de 32) (w0::wr))),some (bO (w0::wr)),none]=some (.nx [some (dk xZ qB yB n),some (.str (Str.join (de 32) (w0::wr))),some (bO (w0::wr)),some xT]):=by
  have cf:nI 0 (e2 dY (eV 2) (eC (.int 0))) (aCons (eV 2) aNil) gb [some (dk nt tbl pt n),some (.str (Str.join (de 32) (w0::wr))),some (bO (w0::wr)),none]=some (xT,[some (dk xZ qB yB n),some (.str (Str.join (de 32) (w0::wr))),some (bO (w0::wr)),none]):=by
   have k1:e2 dY (eV 2) (eC (.int 0)) [some (dk nt tbl pt n),some (.str (Str.join (de 32) (w0::wr))),some (bO (w0::wr)),none]=some (.str w0):=x0
   unfold nI
   rw[k1]
   show(gb.lookup w0).bind _=_
   rw[hd]
   show(if kY (dk nt tbl pt n)=true then(mf [dk nt tbl pt n,bO (w0::wr)]).bind _ else none)=_
   rw[hm]
   rfl
  unfold sSetM
  rw[cf]
  rfl
 have pa:=S4 (nt:=xZ) (tb:=qB) (pt:=yB) (n:=n) (r:=[some (.str (Str.join (de 32) (w0::wr))),some (bO (w0::wr)),some xT])
 unfold cJ
 generalize (sIf (tb (e2 (fR true) (e2 dY (eV 2) (eC (.int 0))) (eC (.str "goings")))) (sDrop (λρ=>((aCons (λρ=>((aCons (eV 2) aNil) ρ).bind λds=>fG (ds++[])) (aCons (e1 (dc [4] "names") (e1 (dc [5,6] "net") (eV 0))) aNil)) ρ).bind λds=>eT (ds++[]))) sSkip)=S1,sSetM 3 (nI 0 (e2 dY (eV 2) (eC (.int 0))) (aCons (eV 2) aNil) gb)=S2,uK 0 [6] "answered" (eC (.int 1))=S3,bO (w0::wr)=L,Str.join (de 32) (w0::wr)=J,dk nt tbl pt n=d1,dk xZ qB yB n=d2,dk xZ qB yB (n+1)=d3 at *
 clear hf hl hz told hd hm hk x0
 walk_at "mid"
theorem Bx {i:Nat}{gs:L3.Env->Option (List D)}{row d:D}(h0:eV i ρ=some (dk nt tbl pt n))(h1:gs ρ=some [row])(h2:cJ [dk nt tbl pt n,row]=some (.tup [xT,d])):gz i 6 "say" gs cJ ρ=some (xT,ρ.set i (some d)):=by
 unfold gz
 rw[h0,h1]
 show(if 6=6/\(["net","table","puts","answered"]:List Str).contains "say"=false then(cJ [dk nt tbl pt n,row]).bind _ else none)=_
 rw[if_pos ⟨rfl,by decide +kernel⟩,h2]
 rfl
end
noncomputable def CT (x:Option D)(b:Bool):Bool:=match x with
 |some (.bl c)=>c==b
 |_=>false
theorem ud {x:Option D}{b:Bool}(h:CT x b=true):x=some (.bl b):=by
 unfold CT at h
 split at h
 ·rw[eq_of_beq h]
 ·cases h
theorem T9:∀w∈(["ride","wait","back","line"]:List Str),Wd w false false:=by
 intro w hw
 refine⟨?_,?_,?_,ud ?_,?_⟩<;>revert w<;>decide +kernel
theorem S6:Wd "show" true false:=⟨yo _,by decide +kernel,by decide +kernel,ud (by decide +kernel),by decide +kernel⟩
theorem Ua:Wd "cut" true false:=⟨yo _,by decide +kernel,by decide +kernel,ud (by decide +kernel),by decide +kernel⟩
theorem Qr:Wd "change" true false:=⟨yo _,by decide +kernel,by decide +kernel,ud (by decide +kernel),by decide +kernel⟩
section
variable {n:Int}{bs:List gQ}
theorem jd (hn:gD names)(h1:names≠[]):cJ [dk nt tbl pt n,.str (oY names)]=some (.tup [.str "ok",dk (cN (names.map .str) []) .non (.lst []) (n+1)]) :=
 Ik (mf:=gW) (λw hw=>(DM hn hw).1 32 (by decide)) (λw hw=>by have:=(DM hn hw).2.1;omega) (by have:=hn.le;omega) (yo _) Pw (.inl rfl) rfl (Qm hn h1)
theorem qx (hn:gD names)(h1:names≠[])(h0:w0∈(["ride","wait","back","line"]:List Str))(hr:rX names (w0::wr) bs)(ok:ll names.length (as++bs)):cJ [dk (cN (names.map .str) as) tbl pt n,.str (Str.join (de 32) (w0::wr))]=some (.tup [.str "ok",dk (cN (names.map .str) (as++bs)) .non pt (n+1)]):=by
 have hw:=T9 w0 h0
 have hl:=hr.len
 rw[bM]at hl
 obtain⟨tl,t1,t2⟩:=hr.told
 have ld:gb.lookup w0=some eA:=by
  simp only[bL,cH,or_false]at h0
  rcases h0 with rfl|rfl|rfl|rfl<;>rfl
 refine Ik (mf:=eA) hr.f32 (λw hw=>by have:=hr.wl w hw;omega) (by omega) hw.ok (Qq hw hr.form) (.inr ⟨tl,names,as,?_,t2,rfl⟩) ld (Qn ok hn h1 hr)
 have x0:dY (bO (w0::wr)) (.int 0)=some (.str w0):=Bw
 have k1:pj false eJ (.str w0)=some (.bl false):=by
  show some (D.bl ((eJ.lookup w0).isSome))=_
  rw[hw.fo]
 have ep:=hw.ep
 unfold fG
 generalize bO (w0::wr)=L,bO tl=TL,pj false eJ=KI at *
 clear hw hr h0 ok hn h1 t2 ld hl
 walk_at "mid"
theorem BW {j:Nat}(h:j<10000000000):pV 32 (cE (j:Int))/\(cE (j:Int)).length<=20:=⟨qv (by decide),by have:=xl h;omega⟩
theorem Hn {p:Bool}{xZ qB yB xT:D}{mf:List D->Option D}(hw:Wd w0 true p)(ht:p=true->uI false tbl .non=some (.bl false))(h0:pV 32 w0/\w0.length<=20)(hp:∀p∈ps,Fits p/\pV 32 p.1/\p.1.length<=20)(hl:ps.length<=100)(hk:BP eJ (.str w0)=some (.kt (ps.map λp=>rM p.2)))
  (ha:inD true (.str w0) dw=some (.bl true)\/inD true (.str w0) dw=some (.bl false)/\∃(j:Nat) (s:wK) (qs:List (Str×wK)),ps=(cE (j:Int),s)::qs/\j<10000000000/\j<as.length)
  (told:∀p∈ps,p.2=none->p.1∈names) (hd:gb.lookup w0=some mf) (hm:mf [dk (cN (names.map .str) as) tbl pt n,bO (iG w0 ps)]=some (.tup [xT,dk xZ qB yB n])) :
  cJ [dk (cN (names.map .str) as) tbl pt n,.str (Str.join (de 32) (iG w0 ps))]=some (.tup [xT,dk xZ qB yB (n+1)]):=by
 have mem:∀w∈iG w0 ps,pV 32 w/\w.length<=20:=λw hw=>by
  rcases bL.mp hw with rfl|hw
  ·exact h0
  ·obtain⟨q,hq,rfl⟩:=dJ.mp hw
   exact(hp q hq).2
 refine Ik (mf:=mf) (λw hw=>(mem w hw).1) (λw hw=>(mem w hw).2) (by rw[bN];omega) hw.ok (QI hw ht (T7 hk hl λq hq=>(hp q hq).1) ha) (.inr ⟨_,names,as,T8 hk ?_ hl,λx hx=>?_,rfl⟩) hd hm
 ·show some (D.bl ((eJ.lookup w0).isSome))=_
  rw[hw.fo]
 ·obtain⟨q,hq,rfl⟩:=dJ.mp hx
  have:=d9.mp hq
  exact told q this.1 (by simpa using this.2)
theorem Kp (hn:gD names)(hw:∀a∈as,Wr names.length a)(hl:as.length<=200):cJ [dk (cN (names.map .str) as) tbl pt n,.str "show"]=some (.tup [.str (rB names (as.map (fq names))),dk (cN (names.map .str) as) tbl pt (n+1)]) :=
 Hn (w0:="show") (ps:=[]) S6 nofun (by constructor<;>(try unfold pV)<;>decide +kernel) nofun (by decide) rfl (.inl (ud (by decide +kernel))) nofun rfl (Qp hn hw hl)
theorem S7 {j:Nat}(hj:j<as.length)(hl:as.length<=1000)(hn:gD names)(h1:names≠[])(ok:ll names.length (as.take j++as.drop (j+1))):cJ [dk (cN (names.map .str) as) tbl pt n,.str (Str.join (de 32) ["cut",cE (j:Int)])]=some (.tup [.str "ok",dk (cN (names.map .str) (as.take j++as.drop (j+1))) .non pt (n+1)]):=by
 refine Hn (w0:="cut") (ps:=[(cE (j:Int),some (0,999999999999999))]) Ua nofun (by constructor<;>(try unfold pV)<;>decide +kernel) (λp hp=>?_) (by simp) rfl (.inr ⟨ud (by decide +kernel),j,_,[],rfl,by omega,hj⟩) (λp hp=>?_) rfl (T5 (by omega) ok hl hn h1)
 ·rw[cj]at hp
  subst hp
  exact⟨λl h e=>by cases e;exact⟨j,rfl,by omega,by omega,by omega⟩,BW (by omega)⟩
 ·rw[cj]at hp
  subst hp
  exact nofun
theorem Px {j t:Nat}(ha:as[j]?=some a)(hb:a.c=.ride->a.b=0)(ht:t<=1000000000)(hl:as.length<=1000)(hn:gD names)(h1:names≠[])(ok:ll names.length (as.set j (a.at t))):cJ [dk (cN (names.map .str) as) tbl pt n,.str (Str.join (de 32) ["change",cE (j:Int),cE (t:Int)])]=some (.tup [.str "ok",dk (cN (names.map .str) (as.set j (a.at t))) .non pt (n+1)]):=by
 have hj:j<as.length:=(cB.mp ha).1
 refine Hn (w0:="change") (ps:=[(cE (j:Int),some (0,999999999999999)),(cE (t:Int),some (0,999999999999999))]) Qr nofun (by constructor<;>(try unfold pV)<;>decide +kernel) (λp hp=>?_) (by simp) rfl (.inr ⟨ud (by decide +kernel),j,_,_,rfl,by omega,hj⟩) (λp hp=>?_) rfl (Qo (by omega) (by omega) ha hb ok hn h1)
 ·simp only[bL,cH,or_false]at hp
  rcases hp with rfl|rfl
  ·exact⟨λl h e=>by cases e;exact⟨j,rfl,by omega,by omega,by omega⟩,BW (by omega)⟩
  ·exact⟨λl h e=>by cases e;exact⟨t,rfl,by omega,by omega,by omega⟩,BW (by omega)⟩
 ·simp only[bL,cH,or_false]at hp
  rcases hp with rfl|rfl<;>exact nofun
end
noncomputable def Ek:mr Kd:=⟨λk=>.str (eK k),λk=>.str (eK k),0,λ_=>by simp[D.py],λk=>by cases k<;>decide +kernel,λ_=>by simp[cx.depth],λx y=>by show(eK x==eK y)=_;cases x<;>cases y<;>decide +kernel⟩
noncomputable def Er:mr (Kd×Int×Int×Int×Int):=⟨λp=>.tup [Ek.enc p.1,.int p.2.1,.int p.2.2.1,.int p.2.2.2.1,.int p.2.2.2.2],λp=>.tuple [Ek.py p.1,Ei.py p.2.1,Ei.py p.2.2.1,Ei.py p.2.2.2.1,Ei.py p.2.2.2.2],1,λp=>by simp[D.py,D.pys,Ek.is,Ei],λp=>by simp[cx.canLay0,cx.canLayAll0,Ek.lay,Ei.lay],
 λp=>by have:=Ek.dp p.1;simp only[cx.depth,cx.depthAll,Ei];simp only[Ek]at *;omega,λp q=>by
  simp only[cx.eqv,cx.eqvAll,Ek.eqv,Ei.eqv]
  obtain⟨a,b,c,d,e⟩:=p
  obtain⟨a',b',c',d',e'⟩:=q
  by_cases h:a=a'<;>by_cases g:b=b'<;>by_cases k:c=c'<;>by_cases l:d=d'<;>by_cases m:e=e'<;>simp[h,g,k,l,m]⟩
theorem S8 (neg:Bool)(as:List gQ):fR neg (.lst (as.map dB)) (.lst [])=some (.bl (if neg then !decide (as=[])else decide (as=[]))):=by
 have:=(El Er).eq (by decide) (neg:=neg) (as.map λa=>(a.c,(a.s:Int),(a.g:Int),a.t,(a.b:Int))) []
 have e1:(El Er).enc (as.map λa=>(a.c,(a.s:Int),(a.g:Int),a.t,(a.b:Int)))=.lst (as.map dB):=by show D.lst _=_;rw[eD];rfl
 rw[e1]at this
 rw[show D.lst []=(El Er).enc []from rfl,this]
 cases as<;>rfl
noncomputable def Rt (many:Nat)(as:List gQ):Prop:=∀a∈as,Right many a/\(a.b=0->a.s<a.g)
theorem Rt.net (h:Rt many as)(h1:1<=many)(h8:many<=8)(hl:as.length<=120):ll many as:=⟨h1,by omega,hl,λa ha=>(h a ha).1,id,λa ha=>(h a ha).2⟩
theorem Rt.app {bs:List gQ}(h:Rt many as)(g:Rt many bs):Rt many (as++bs):=λa ha=>by
 rcases cL.mp ha with ha|ha
 ·exact h a ha
 ·exact g a ha
theorem Ux (hn:gD names)(h1:1<=names.length)(h8:names.length<=8)(hw:Rt names.length as)(hl:as.length+3<=120)(c:Int){k:Nat}(hk:k<=1000) :
  ∃(row:Str) (iz:List Str) (mw:List gQ),f6 [.int c,.int (k:Int),bO names,.lst (as.map dB)]=some (.tup [.str row,bO iz,.lst (mw.map dB)])/\gD iz/\iz.length=names.length/\Rt names.length mw/\mw.length<=as.length+3 /\
   ∀n:Int,cJ [dk (cN (names.map .str) as) .non (.lst []) n,.str row]=some (.tup [.str "ok",dk (cN (iz.map .str) mw) .non (.lst []) (n+1)]):=by
 have mN:names≠[]:=eQ.mp (by omega)
 obtain⟨z,m1,zb⟩:=jb c (k:=(k:Int)) (by omega) (by omega)
 have ln:eO [bO names]=some (.int (names.length:Int)):=(xg _).trans (by rw[bN])
 have la:eO [.lst (as.map dB)]=some (.int (as.length:Int)):=(xg _).trans (by rw[bN])
 have en:=S8 true as
 obtain⟨j,VB,CA,AW⟩:∃j:Nat,eU (.int (z:Int)) (.int ((max 1 as.length:Nat):Int))=some (.int (j:Int))/\j<max 1 as.length/\(as≠[]->j<as.length):=by
  refine⟨z%max 1 as.length,by rw[yf (by omega)];simp,qE _ (by omega),λh=>?_⟩
  have:0<as.length:=eQ.mpr h
  have e:max 1 as.length=as.length:=by omega
  rw[e]
  exact qE _ this
 have mx:mF [.int 1,.int (as.length:Int)]=some (.int ((max 1 as.length:Nat):Int)):=by
  refine(xq _ _).trans ?_
  congr 2
  split<;>omega
 have sj:=ux (t:=(j:Int)) (by omega) (by omega)
 have js:=BW (j:=j) (by omega)
 have JA:c%11=10\/c%11<3\/(¬c%11<3/\c%11<6)\/(c%11=6\/c%11=7)\/(c%11=8\/c%11=9):=by omega
 have arr:¬c%11=10->(c%11<6->as=[])->¬c%11=6->¬c%11=7->∃(row:Str) (iz:List Str) (mw:List gQ),f6 [.int c,.int (k:Int),bO names,.lst (as.map dB)]=some (.tup [.str row,bO iz,.lst (mw.map dB)])/\gD iz/\iz.length=names.length/\Rt names.length mw/\mw.length<=as.length+3 /\
   ∀n:Int,cJ [dk (cN (names.map .str) as) .non (.lst []) n,.str row]=some (.tup [.str "ok",dk (cN (iz.map .str) mw) .non (.lst []) (n+1)]):=λGF m9 n6 n7=>by
  obtain⟨a,ha,vZ,CC⟩:=SV (z:Int) (k:=1) (many:=names.length) (by decide) h1 h8
  have Gh:=LD hn (Wr.of vZ)
  have ad:cP (.lst (as.map dB)) (.lst [dB a])=some (.lst ((as++[a]).map dB)):=by
   rw[cW]
   exact yk (by simp only[bN,bM,jF];omega)
  have rt:=hw.app (bs:=[a]) λb hb=>by rw[cj.mp hb];exact⟨vZ,CC⟩
  refine⟨fq names a,names,as++[a],?_,hn,rfl,rt,by simp,λn=>?_⟩
  ·replace ha:fF [.int (z:Int),.int 1,.int (names.length:Int)]=some (dB a):=ha
   have q3:c%11<3->as=[]:=λh=>m9 (by omega)
   unfold f6
   generalize fq names a=RT,dB a=ER,bO names=N,(names.length:Int)=nl,(as++[a]).map dB=A2 at *
   generalize hA:as.map dB=A at *
   generalize (as.length:Int)=al,((max 1 as.length:Nat):Int)=ml at *
   clear hn mN hw rt vZ CC hl h1 h8 hA CA AW js zb JA
   by_cases h6:c%11<6
   ·rw[decide_eq_true (m9 h6)]at en
    clear m9 q3
    by_cases h3:c%11<3
    ·walk_at "mid"
    ·walk_at "mid"
   ·have h3:¬c%11<3:=by omega
    clear m9 q3
    walk_at "mid"
  ·have h0:eK a.c∈(["ride","wait","back","line"]:List Str):=by cases a.c<;>simp[eK]
   exact qx hn mN h0 (LB hn (Wr.of vZ)) (rt.net h1 h8 (by simp;omega))
 rcases JA with h|h|h|h|h
 ·obtain⟨lY,e1,DZ,e3⟩:=Lc (z:Int) (many:=names.length) h8
  have CH:lY≠[]:=eQ.mp (by omega)
  refine⟨oY lY,lY,[],?_,e3,DZ,nofun,by simp,λn=>jd e3 CH⟩
  have ag:cP (.lst [.str "goings"]) (bO lY)=some (bO ("goings"::lY)):=yk (by have:=e3.le;simp;omega)
  have hd:=E1 e3
  unfold f6
  show _=some (D.tup [_,_,.lst []])
  generalize oY lY=HD,bO ("goings"::lY)=GN,bO lY=N',bO names=N,(names.length:Int)=nl,as.map dB=A,(as.length:Int)=al,((max 1 as.length:Nat):Int)=ml at *
  clear hn mN hw hl h1 h8 CA AW js zb en arr DZ e3 CH
  walk_at "mid"
 ·by_cases m9:as=[]
  ·exact arr (by omega) (λ_=>m9) (by omega) (by omega)
  ·have hj:=AW m9
   have rt:Rt names.length (as.take j++as.drop (j+1)):=λa ha=>hw a (by
    rcases cL.mp ha with ha|ha
    ·exact jA ha
    ·exact List.mem_of_mem_drop ha)
   have le:(as.take j++as.drop (j+1)).length<=as.length:=by rw[cv,dR,dQ];omega
   refine⟨Str.join (de 32) ["cut",cE (j:Int)],names,as.take j++as.drop (j+1),?_,hn,rfl,rt,by omega,λn=>S7 hj (by omega) hn mN (rt.net h1 h8 (by omega))⟩
   obtain⟨s1,s2⟩:=Ib as j dB
   have ad:cP (.lst ((as.take j).map dB)) (.lst ((as.drop (j+1)).map dB))=some (.lst ((as.take j++as.drop (j+1)).map dB)):=by
    rw[cW]
    refine yk ?_
    simp only[bN,dR,dQ]
    omega
   have at':cP (.str "cut ") (.str (cE (j:Int)))=some (.str (Str.join (de 32) ["cut",cE (j:Int)])):=by
    have e:Str.join (de 32) ["cut",cE (j:Int)] = "cut "++cE (j:Int):=by
     rw[yz]
     have:("cut":Str)++de 32 = "cut ":=by decide +kernel
     rw[this];rfl
    rw[e]
    have:("cut ":Str).length=4:=by decide +kernel
    exact zx (by have:=js.2;omega)
   rw[decide_eq_false m9]at en
   unfold f6
   generalize Str.join (de 32) ["cut",cE (j:Int)]=R,bO names=N,(names.length:Int)=nl,(as.take j++as.drop (j+1)).map dB=A2,(as.take j).map dB=A3 at *
   generalize (as.drop (j+1)).map dB=A4,as.map dB=A,(as.length:Int)=al,((max 1 as.length:Nat):Int)=ml,cE (j:Int)=ij at *
   have GF:¬c%11=10:=by omega
   clear hn mN hw hl h1 h8 CA AW js zb arr rt le m9 hj
   generalize (j:Int)=J at *
   walk_at "mid"
 ·by_cases m9:as=[]
  ·exact arr (by omega) (λ_=>m9) (by omega) (by omega)
  ·have hj:=AW m9
   obtain⟨a,ha⟩:∃a,as[j]?=some a:=⟨as[j],cz hj⟩
   obtain⟨vZ,CC⟩:=hw a (fw.mpr ⟨j,ha⟩)
   have pw:(10:Int) ^ (9:Int).toNat=1000000000:=by decide
   obtain⟨m,VI,F8,F9⟩:∃m:Int,dY (.lst [.int 10,.int 1000000001]) (.int ((z:Int)/8%2))=some (.int m)/\0<m/\m<=1000000001:=by
    have:(z:Int)/8%2=0\/(z:Int)/8%2=1:=by omega
    rcases this with e|e<;>rw[e]
    ·exact⟨10,rfl,by decide,by decide⟩
    ·exact⟨1000000001,rfl,by decide,by decide⟩
   obtain⟨t,ht,I0⟩:∃t:Nat,eU (.int ((z:Int)/16)) (.int m)=some (.int (t:Int))/\t<=1000000000:=by
    have a1:=jK ((z:Int)/16) (show m≠0 by omega)
    have a2:=ik ((z:Int)/16) F8
    exact⟨((z:Int)/16%m).toNat,by rw[yf F8,gY a1],by omega⟩
   have st:=ux (t:=(t:Int)) (by omega) (by omega)
   have ts:=BW (j:=t) (by omega)
   have es:as.set j (a.at t)=as.take j++[a.at t]++as.drop (j+1):=by
    rw[List.set_eq_take_append_cons_drop,if_pos hj];simp
   have rt:Rt names.length (as.set j (a.at t)):=λb hb=>by
    rcases List.mem_or_eq_of_mem_set hb with hb|rfl
    ·exact hw b hb
    ·exact⟨⟨vZ.s,vZ.g,by show(0:Int)<=(t:Int);omega,by show(t:Int)<=1000000000;omega,vZ.b,vZ.r,vZ.k⟩,CC⟩
   refine⟨Str.join (de 32) ["change",cE (j:Int),cE (t:Int)],names,as.set j (a.at t),?_,hn,rfl,rt,by rw[lH];omega,λn=>Px ha vZ.r I0 (by omega) hn mN (rt.net h1 h8 (by rw[lH];omega))⟩
   obtain⟨s1,s2⟩:=Ib as j dB
   have xa:dY (.lst (as.map dB)) (.int (j:Int))=some (.tup [.str (eK a.c),.int (a.s:Int),.int (a.g:Int),.int a.t,.int (a.b:Int)]):=yp (by rw[c9,ha];rfl)
   have UZ:cP (.lst ((as.take j).map dB)) (.lst [.tup [.str (eK a.c),.int (a.s:Int),.int (a.g:Int),.int (t:Int),.int (a.b:Int)]])=some (.lst ((as.take j++[a.at t]).map dB)):=by
    rw[cW]
    refine yk ?_
    simp only[bN,dR,bM,jF]
    omega
   have U0:cP (.lst ((as.take j++[a.at t]).map dB)) (.lst ((as.drop (j+1)).map dB))=some (.lst ((as.set j (a.at t)).map dB)):=by
    rw[es,cW (l₂:=as.drop (j+1))]
    refine yk ?_
    simp only[bN,cv,dR,bM,jF,dQ]
    omega
   have l7:("change ":Str).length=7:=by decide +kernel
   have j2:=js.2
   have t2:=ts.2
   have at1:cP (.str "change ") (.str (cE (j:Int)))=some (.str ("change "++cE (j:Int))):=zx (by omega)
   have at2:cP (.str ("change "++cE (j:Int))) (.str " ")=some (.str ("change "++cE (j:Int) ++ " ")):=zx (by rw[yq,zX,qM];omega)
   have U1:cP (.str ("change "++cE (j:Int) ++ " ")) (.str (cE (t:Int)))=some (.str (Str.join (de 32) ["change",cE (j:Int),cE (t:Int)])):=by
    have e:Str.join (de 32) ["change",cE (j:Int),cE (t:Int)] = "change "++cE (j:Int) ++ " "++cE (t:Int):=by
     rw[yz,yz]
     have:("change":Str)++de 32 = "change ":=by decide +kernel
     rw[this,←zX]
     apply wg
     simp only[xn,dz]
     rfl
    rw[e]
    exact zx (by rw[yq,yq,zX,qM];omega)
   rw[decide_eq_false m9]at en
   unfold f6
   generalize Str.join (de 32) ["change",cE (j:Int),cE (t:Int)]=R,"change "++cE (j:Int) ++ " "=R2 at *
   generalize "change "++cE (j:Int)=R1,bO names=N,(names.length:Int)=nl,(as.set j (a.at t)).map dB=A2,(as.take j++[a.at t]).map dB=A5,(as.take j).map dB=A3,(as.drop (j+1)).map dB=A4,as.map dB=A,(as.length:Int)=al,((max 1 as.length:Nat):Int)=ml at *
   generalize cE (j:Int)=ij,cE (t:Int)=it,eK a.c=wa at *
   have GF:¬c%11=10:=by omega
   have n3:¬c%11<3:=h.1
   have n6:c%11<6:=h.2
   clear hn mN hw hl h1 h8 CA AW js zb arr rt m9 hj es vZ CC ts j2 t2 ha I0 h l7 F8 F9
   generalize (j:Int)=J,(t:Int)=T at *
   walk_at "mid"
 ·obtain⟨ws,bs,VD,Gh,⟨wr,NL⟩,IH,Cp⟩:=SY hn (z:Int) h1 h8
  subst NL
  have rt:=hw.app IH
  have hJ:(as++bs).length<=as.length+3:=by rw[cv];omega
  refine⟨_,names,as++bs,?_,hn,rfl,rt,hJ,λn=>qx hn mN (by simp) Gh (rt.net h1 h8 (by omega))⟩
  have ad:cP (.lst (as.map dB)) (.lst (bs.map dB))=some (.lst ((as++bs).map dB)):=by
   rw[cW]
   exact yk (by simp only[bN];omega)
  unfold f6
  generalize Str.join (de 32) (("line":Str)::wr)=R,bO names=N,(names.length:Int)=nl,(as++bs).map dB=A2,bs.map dB=B,as.map dB=A,(as.length:Int)=al,((max 1 as.length:Nat):Int)=ml at *
  have GF:¬c%11=10:=by omega
  have n3:¬c%11<3:=by omega
  have n6:¬c%11<6:=by omega
  clear hn mN hw hl h1 h8 CA AW js zb arr rt hJ Gh IH Cp en
  rcases h with h|h
  ·walk_at "mid"
  ·have VM:¬c%11=6:=by omega
   walk_at "mid"
 ·exact arr (by omega) (λh6=>absurd h6 (by omega)) (by omega) (by omega)
variable {ρ':L3.Env}
theorem BY {f:EM}{g:EF}{x y:D}{b:Bool}(h1:f ρ=some (x,ρ'))(h2:g ρ'=some y)(h3:fR true x y=some (.bl b)):pq (fR true) f g ρ=some (b,ρ'):=by
 unfold pq
 rw[h1]
 show(g ρ').bind _=_
 rw[h2]
 show(fR true x y).bind _=_
 rw[h3]
 rfl
theorem CY {p q:BM}{Mr:L3.Env}(h1:p ρ=some (false,ρ'))(h2:q ρ'=some (false,Mr)):Bf p q ρ=some (false,Mr):=by
 unfold Bf
 rw[h1]
 exact h2
theorem DO {p:BM}{u:SF}(h:p ρ=some (false,ρ')):oC p u sSkip ρ=some (.nx ρ'):=by
 unfold oC
 rw[h]
 rfl
theorem je {x:Str}(h:cx.strOk x=true):fR true (.str x) (.str x)=some (.bl false):=(xb h h).trans (by simp)
noncomputable def kB:List Str:=["zz","zy"]
theorem BZ:gD kB:=⟨by decide +kernel,by decide +kernel,by decide⟩
theorem Mq:oY kB = "goings zz zy":=by decide +kernel
noncomputable def B3 (k:Nat):gQ:=⟨.back,0,1,(k:Int),1⟩
theorem Uy {k:Nat}:fq kB (B3 k) = "back zz zy "++cE (k:Int) ++ " 1":=by
 have i1:cE (((1:Nat):Int)) = "1":=by decide +kernel
 have e:fq kB (B3 k)=Str.join (de 32) ["back","zz","zy",cE (k:Int),cE (((1:Nat):Int))]:=by
  unfold fq nq
  rw[if_neg (by show¬Kd.back=Kd.ride;decide)]
  show Str.join (de 32) ["back",cu kB 0,cu kB 1,cE (k:Int),cE (((1:Nat):Int))]=_
  have z0:cu kB 0 = "zz":=by decide +kernel
  have z1:cu kB 1 = "zy":=by decide +kernel
  rw[z0,z1]
 rw[i1]at e
 rw[e,yz,yz,yz,yz]
 have:("back":Str)++de 32++(("zz":Str)++de 32++(("zy":Str)++de 32)) = "back zz zy ":=by decide +kernel
 rw[←this]
 have:(" 1":Str)=de 32 ++ "1":=by decide +kernel
 rw[this]
 apply wg
 simp only[xn,dz]
 rfl
theorem Ho {k:Nat}(hk:k<=1000):Right 2 (B3 k):=⟨by show 0<2;decide,by show 1<2;decide,by show(0:Int)<=(k:Int);omega,by show(k:Int)<=_;omega,by show 1<=4;decide,nofun,λ_=>bY 1⟩
theorem Uz {bs:List gQ}{n:Int}{k:Nat}(hk:k<=1000)(hb:Rt 2 bs)(hl:bs.length<=100):cJ [dk (cN (kB.map .str) bs) .non (.lst []) n,.str ("back zz zy "++cE (k:Int) ++ " 1")]=some (.tup [.str "ok",dk (cN (kB.map .str) (bs++[B3 k])) .non (.lst []) (n+1)]):=by
 rw[←Uy]
 have rt:=hb.app (bs:=[B3 k]) λb hb=>by rw[cj.mp hb];exact⟨Ho hk,λh=>absurd (show 1=0 from h) (by decide)⟩
 exact qx BZ (by decide) (by show("back":Str)∈_;decide +kernel) (LB BZ (Wr.of (Ho hk))) (rt.net (by decide) (by decide) (by simp;omega))
theorem UA {bs:List gQ}(hw:∀a∈bs,Wr kB.length a)(hl:bs.length<=200):tW (.str (rB kB (bs.map (fq kB)))) none (some 12)=some (.str "goings zz zy"):=by
 have le:(rB kB (bs.map (fq kB))).length<=16777216:=by
  have:=uz (b:=600) (ws:=oY kB::bs.map (fq kB)) (λw h=>by
   rcases bL.mp h with rfl|h
   ·exact HA BZ
   ·obtain⟨a,ha,rfl⟩:=dJ.mp h
    exact Hw BZ (hw a ha)) 10
  rw[bM,bN]at this
  unfold rB
  omega
 show(if(rB kB (bs.map (fq kB))).length<=16777216 then some (D.str (Txt.slice _ none (some 12)))else none)=_
 rw[if_pos le]
 congr 2
 have hl:∃r,(rB kB (bs.map (fq kB))).cps.toList=("goings zz zy":Str).cps.toList++r:=by
  rw[←Mq]
  unfold rB
  cases bs with
  |nil=>exact⟨[],(cV _).symm⟩
  |cons b bs=>exact⟨_,join_list _ _ _ _⟩
 obtain⟨r,hr⟩:=hl
 have D2:("goings zz zy":Str).cps.toList.length=12:=by decide +kernel
 apply wg
 show(StrLaws.sliceText (rB kB (bs.map (fq kB))) none (some 12)).cps.toList=_
 rw[StrLaws.sliceText_to ⟨by decide,by rw[hr,cv,D2];omega⟩]
 show((rB kB (bs.map (fq kB))).cps.toList.drop 0).take 12=_
 rw[yI,hr,←D2,List.take_left]
theorem QJ (ns:List Int)(_:ns.length<=63):wZ [.lst (ns.map .int)]=some (.bl true):=by
 obtain⟨c,c0⟩:=L7 ns 0 (by decide)
 have hS:∀k:Nat,∃c,gu [.lst (ns.map .int),.int (1+(k:Int))]=some (.int c):=λk=>L7 ns _ (by omega)
 obtain⟨z2,m2,_⟩:=jb c (k:=2) (by decide) (by decide)
 obtain⟨z3,m3,_⟩:=jb c (k:=3) (by decide) (by decide)
 have g2:eU (.int (z2:Int)) (.int 6)=some (.int ((z2%6:Nat):Int)):=by rw[yf (by decide)];exact congrArg (λz=>some (D.int z)) (by omega)
 have g3:eU (.int (z3:Int)) (.int 12)=some (.int ((z3%12:Nat):Int)):=by rw[yf (by decide)];exact congrArg (λz=>some (D.int z)) (by omega)
 have a1:(1:Int)+((z2%6:Nat):Int)=((1+z2%6:Nat):Int):=by omega
 obtain⟨many,lW⟩:∃many,many=1+z2%6:=⟨_,rfl⟩
 have IU:many<=8:=by omega
 have F9:1<=many:=by omega
 obtain⟨names,IV,BL,hn⟩:=Lc c IU
 rw[lW,←a1]at IV
 have mN:names≠[]:=eQ.mp (by omega)
 obtain⟨sz,hsz,sl⟩:∃sz:Nat,sz<=30/\∃ds:List D,dP (.lst (ns.map .int)) (some 1) (some 31)=some (.lst ds)/\mF [.int (ds.length:Int),.int ((z3%12:Nat):Int)]=some (.int (sz:Int)):=by
  have hl:(cutD (ns.map D.int) (some ((1:Nat):Int)) (some ((31:Nat):Int))).length<=30:=by rw[KA,dR];omega
  refine⟨max (cutD (ns.map D.int) (some ((1:Nat):Int)) (some ((31:Nat):Int))).length (z3%12),by omega,_,rfl,(xq _ _).trans ?_⟩
  congr 2
  show(if((cutD (ns.map D.int) (some ((1:Nat):Int)) (some ((31:Nat):Int))).length:Int)<_ then _ else((cutD (ns.map D.int) (some ((1:Nat):Int)) (some ((31:Nat):Int))).length:Int))=_
  split<;>omega
 obtain⟨ds,sl,mx⟩:=sl
 generalize D.lst (ns.map .int)=S at *
 have r1:=ur (j:=(sz:Int)) (by omega) (by omega)
 rw[fJ]at r1
 have o1:cx.strOk ("ok":Str)=true:=yo _
 obtain⟨ρ',lp,iz,as,bs,n1,n2,y6,y7,rfl,rJ,qW,hw,Cp,hb,FJ⟩:=vm (g:=gV 6) (b:=oR) (lo:=0) (n:=sz) (ρ:=[some S,some (.int c),some (bO names),some (dk (cN (names.map .str) []) .non (.lst []) 1),some (dk (cN (kB.map .str) []) .non (.lst []) 1),some (.lst []),none,none])
  (λk ρ=>∃(nm:List Str) (as bs:List gQ) (n1 n2:Int) (y6 y7:Option D),ρ=[some S,some (.int c),some (bO nm),some (dk (cN (nm.map .str) as) .non (.lst []) n1),some (dk (cN (kB.map .str) bs) .non (.lst []) n2),some (.lst (as.map dB)),y6,y7]/\gD nm/\nm.length=many/\Rt many as/\as.length<=3*k/\Rt 2 bs/\bs.length<=k) ⟨names,[],[],1,1,none,none,rfl,hn,BL,nofun,by simp,nofun,by simp⟩ (by
   rintro k ρ hk ⟨nm,as,bs,n1,n2,y6,y7,rfl,hn,BL,hw,Cp,hb,FJ⟩
   obtain⟨cc,hc⟩:=hS k
   obtain⟨row,lY,mw,hd,rJ,qW,xW,FG,vJ⟩:=Ux hn (by omega) (by omega) (by rw[BL];exact hw) (by omega) cc (k:=k) (by omega)
   rw[BL]at qW xW
   have yY:∀a∈mw,Wr lY.length a:=λa ha=>by rw[qW];exact Wr.of (xW a ha).1
   have sh:=λn=>Kp (tbl:=.non) (pt:=.lst []) (n:=n) rJ yY (by omega)
   have rows:=SW rJ yY (by omega)
   have jn:=SX (ys:=mw.map (fq lY)) rJ (by rw[bN];omega) λy hy=>by
    obtain⟨a,ha,rfl⟩:=dJ.mp hy
    exact Hw rJ (yY a ha)
   have tok:=T3 rJ yY
   have jr:∀r:L3.Env,r[2]?.join=some (bO lY)->r[5]?.join=some (.lst (mw.map dB))->(e2 iJ (eC (.str "\n")) (λρ=>((aCons (eV 2) (aCons (eV 5) aNil)) ρ).bind λds=>iO (ds++[]))) r=some (.str (rB lY (mw.map (fq lY)))):=λr h2 h5=>by
    have v2:eV 2 r=some (bO lY):=h2
    have v5:eV 5 r=some (.lst (mw.map dB)):=h5
    generalize rB lY (mw.map (fq lY))=T,bO (oY lY::mw.map (fq lY))=L,bO lY=N,mw.map dB=A at *
    clear rJ yY tok sh h2 h5 vJ xW hw hb
    unfold e2 aCons
    simp[v2,v5,aNil,rows,eC,jn]
   have q2:=DO (u:=sRet (eC (.bl false))) (CY
    (BY (f:=gz 3 6 "say" (aCons (eV 7) aNil) cJ) (g:=eC (.str "ok")) (Bx (i:=3) (ρ:=[some S,some (.int c),some (bO lY),some (dk (cN (nm.map .str) as) .non (.lst []) n1),some (dk (cN (kB.map .str) bs) .non (.lst []) n2),some (.lst (mw.map dB)),some (.int (k:Int)),some (.str row)]) rfl rfl (vJ n1)) rfl (je o1))
    (BY (f:=gz 3 6 "say" (aCons (eC (.str "show")) aNil) cJ) (Bx (i:=3) rfl rfl (sh _)) (jr _ rfl rfl) (je tok)))
   have q4:=λ(b:D)=>DO (u:=sRet (eC (.bl false))) (BY (f:=gz 3 6 "say" (aCons (eC (.str "show")) aNil) cJ) (Bx (i:=3) (ρ:=[some S,some (.int c),some (bO lY),some (dk (cN (lY.map .str) mw) .non (.lst []) (n1+1+1)),some b,some (.lst (mw.map dB)),some (.int (k:Int)),some (.str row)]) rfl rfl (sh _)) (jr _ rfl rfl) (je tok))
   have q3:∃(AS:List gQ) (C1:Int),Rt 2 AS/\AS.length<=k+1/\oC (vB (mT (tb (e2 (fR false) (e2 eU (eV 6) (eC (.int 2))) (eC (.int 1))))) (pq (fR true) (gz 4 6 "say" (aCons (e2 cP (e2 cP (eC (.str "back zz zy ")) (eN nr (aCons (eV 6) aNil))) (eC (.str " 1"))) aNil) cJ) (eC (.str "ok")))) (sRet (eC (.bl false))) sSkip [some S,some (.int c),some (bO lY),some (dk (cN (lY.map .str) mw) .non (.lst []) (n1+1+1)),some (dk (cN (kB.map .str) bs) .non (.lst []) n2),some (.lst (mw.map dB)),some (.int (k:Int)),some (.str row)]=some (.nx [some S,some (.int c),some (bO lY),some (dk (cN (lY.map .str) mw) .non (.lst []) (n1+1+1)),some (dk (cN (kB.map .str) AS) .non (.lst []) C1),some (.lst (mw.map dB)),some (.int (k:Int)),some (.str row)]):=by
    by_cases IT:(k:Int)%2=1
    ·refine⟨bs++[B3 k],n2+1,hb.app λb hb=>by rw[cj.mp hb];exact⟨Ho (by omega),λh=>absurd (show 1=0 from h) (by decide)⟩,by simp;omega,DO ?_⟩
     have tt:(mT (tb (e2 (fR false) (e2 eU (eV 6) (eC (.int 2))) (eC (.int 1))))) [some S,some (.int c),some (bO lY),some (dk (cN (lY.map .str) mw) .non (.lst []) (n1+1+1)),some (dk (cN (kB.map .str) bs) .non (.lst []) n2),some (.lst (mw.map dB)),some (.int (k:Int)),some (.str row)]=some (true,[some S,some (.int c),some (bO lY),some (dk (cN (lY.map .str) mw) .non (.lst []) (n1+1+1)),some (dk (cN (kB.map .str) bs) .non (.lst []) n2),some (.lst (mw.map dB)),some (.int (k:Int)),some (.str row)]):=by
      unfold mT
      clear q2 q4 jr tok jn rows sh yY vJ xW rJ
      simp[tb,e2,eV,eC,yf,qj,uq,IT]
     unfold vB
     rw[tt]
     refine BY (f:=gz 4 6 "say" _ cJ) (Bx (i:=4) (row:=.str ("back zz zy "++cE (k:Int) ++ " 1")) rfl ?_ (Uz (by omega) hb (by omega))) rfl (je o1)
     have ss:=ux (t:=(k:Int)) (by omega) (by omega)
     have l1:("back zz zy ":Str).length=11:=by decide +kernel
     have l2:(" 1":Str).length=2:=by decide +kernel
     have l3:=(BW (j:=k) (by omega)).2
     have d1:cP (.str "back zz zy ") (.str (cE (k:Int)))=some (.str ("back zz zy "++cE (k:Int))):=zx (by omega)
     have d2:cP (.str ("back zz zy "++cE (k:Int))) (.str " 1")=some (.str ("back zz zy "++cE (k:Int) ++ " 1")):=zx (by rw[yq];omega)
     generalize "back zz zy "++cE (k:Int) ++ " 1"=R1 at *
     generalize "back zz zy "++cE (k:Int)=R2 at *
     clear q2 q4 jr tok jn rows sh yY vJ xW rJ tt
     simp[aCons,aNil,e2,eN,eC,eV,ss,d1,d2]
    ·refine⟨bs,n2,hb,by omega,DO ?_⟩
     unfold vB mT
     clear q2 q4 jr tok jn rows sh yY vJ xW rJ
     simp[tb,e2,eV,eC,yf,qj,uq,IT]
   obtain⟨AS,C1,IJ,Cr,q3⟩:=q3
   refine⟨_,_,rfl,.inl ?_,lY,mw,AS,n1+1+1+1,C1,some (.int (k:Int)),some (.str row),rfl,rJ,qW,xW,by omega,IJ,Cr⟩
   have q4:=q4 (dk (cN (kB.map .str) AS) .non (.lst []) C1)
   rw[nP]
   unfold oR
   generalize oC (Bf _ _) _ _=I2,oC (vB _ _) _ _=I3,oC (pq _ _ _) _ _=I4 at *
   dsimp only[d8]at q2 q4
   generalize dk (cN (nm.map .str) as) .non (.lst []) n1=d0,dk (cN (lY.map .str) mw) .non (.lst []) (n1+1+1)=d1 at *
   generalize dk (cN (lY.map .str) mw) .non (.lst []) (n1+1+1+1)=d2,dk (cN (kB.map .str) bs) .non (.lst []) n2=e0,dk (cN (kB.map .str) AS) .non (.lst []) C1=MC,bO lY=N' at *
   generalize bO nm=N,mw.map dB=A',as.map dB=A at *
   clear jr tok jn rows sh yY vJ xW rJ hw hb IJ hn hS m2 m3 g2 g3 Cp FG FJ Cr qW BL
   walk_at "mid")
 have ag:cP (.lst [.str "goings"]) (bO names)=some (bO ("goings"::names)):=yk (by have:=hn.le;simp;omega)
 have hd:=E1 hn
 have i1:=DO (u:=sRet (eC (.bl false))) (CY
  (BY (f:=gz 3 6 "say" (aCons (e2 iJ (eC (.str " ")) (e2 cP (λρ=>((aCons (eC (.str "goings")) aNil) ρ).bind λds=>some (.lst ds)) (eV 2))) aNil) cJ) (g:=eC (.str "ok")) (Bx (i:=3) (ρ:=[some S,some (.int c),some (bO names),some (dk .non .non (.lst []) 0),some (dk .non .non (.lst []) 0),none,none,none]) (row:=.str (oY names)) rfl (by
   generalize bO ("goings"::names)=GN,bO names=N,oY names=H at *
   clear lp hn rJ hw hb hS
   simp[aCons,aNil,e2,eC,eV,ag,hd]) (jd hn mN)) rfl (je o1))
  (BY (f:=gz 4 6 "say" (aCons (eC (.str "goings zz zy")) aNil) cJ) (g:=eC (.str "ok")) (Bx (i:=4) (row:=.str "goings zz zy") rfl rfl (by rw[←Mq];exact jd BZ (by decide))) rfl (je o1)))
 dsimp only[d8]at i1
 have Gp:∀a∈bs,Wr kB.length a:=λa ha=>Wr.of (hb a ha).1
 have fin:=Bx (i:=4) (gs:=aCons (eC (.str "show")) aNil) (ρ:=[some S,some (.int c),some (bO iz),some (dk (cN (iz.map .str) as) .non (.lst []) n1),some (dk (cN (kB.map .str) bs) .non (.lst []) n2),some (.lst (as.map dB)),y6,y7]) rfl rfl (Kp BZ Gp (by omega))
 dsimp only[d8]at fin
 have cut:=UA Gp (by omega)
 have U6:fR false (.str "goings zz zy") (.str "goings zz zy")=some (.bl true):=(xb (yo _) (yo _)).trans (by simp)
 have dn:=tH
 unfold wZ
 generalize rB kB (bs.map (fq kB))=TX,oC (Bf _ _) _ _=I1,gz 4 6 "say" (aCons (eC (.str "show")) aNil) cJ=CM at *
 rw[show(0:Int)+1=1 from rfl]at i1
 generalize dk .non .non (.lst []) 0=U2,dk (cN (names.map .str) []) .non (.lst []) 1=U3,dk (cN (kB.map .str) []) .non (.lst []) 1=U4,dk (cN (iz.map .str) as) .non (.lst []) n1=d1,dk (cN (kB.map .str) bs) .non (.lst []) n2=d2,dk (cN (kB.map .str) bs) .non (.lst []) (n2+1)=d3,bO iz=N',bO ("goings"::names)=GN at *
 generalize bO names=N,as.map dB=A,oH 0 sz=U,oR=B1 at *
 clear hn rJ hw hb hS Gp hd ag hsz Cp FJ qW BL mN IU F9 a1 lW
 generalize z2%6=q2,z3%12=q3 at *
 walk_at "mid"
section
variable {P:dA}{w:cY}{base:bU}{a:Adr}
theorem UB (T:Txt K mg a w):dm P w K mg base fK 9 a.bA a.bB ["_law_script"] (qN K):=Uh (Uq T) QJ
end
theorem fin {l:nU}{w:cY}{fa:bI}{a:Adr}(Nq:mg "law"=some (.ref fa))(T:Txt K mg a w)(b:∀(s:bP) (v:bC),pJ s a.bB ⟨[v],[]⟩ [("_law_script",v)]) :
  ∃fd:bW,(∀(s:bP) (v:bC),pJ s fd ⟨[v],[]⟩ [("_law_script",v)])/\∀base:bU,K.In base->base.Ns dg mg->dm l.prog w K mg base fK 9 fa fd ["_law_script"] (qN K):=by
 cases Nq.symm.trans T.aM.mgx
 exact⟨_,b,λ_ _ _=>UB T⟩
theorem walk {l:nU}{q:dA}{loose:List Str}{XP:(Str->Option bC)->bU->Prop}{YP:cY->bU->Prop}{d:DefRec}{K:Params->bG}(hn:l.most=some 63)(Cv:d.params.defaults=[])
  (hY:∀(w:cY) (h:bU),YP w h->(K w.params).In h)
  (F:∀(w:cY) (mg:Str->Option bC) (fa:bI) (h:bU),(K w.params).In h->h.Ns dg mg->mg d.name=some (.ref fa) ->
   ∃fd:bW,(∀(s:bP) (u:bC),pJ s fd ⟨[u],[]⟩ [("_law_script",u)])/\∀base:bU,(K w.params).In base->base.Ns dg mg->dm l.prog w (K w.params) mg base fK 9 fa fd ["_law_script"] (qN (K w.params))) :
  wH q loose XP YP l.row.toRowW d [] (λf vs=>PySem.call f vs) :=
 L2.walk_of (n:=63) (k:=9) (x:="_law_script") (CX:=λ_=>fK) (sp:=λw=>qN (K w.params)) hn (by decide) Cv ⟨rfl,by decide,by decide,rfl⟩ hY F (λ_ _ a ns hl _ hS=>⟨a,ns,rfl,hS,hl,λ_=>rfl⟩) λ_ _ _ _ _ z=>z
end My
-- KEEP
local macro_rules | `(tactic| walk_at "zC") => `(tactic| (refine' L3.m_dc (by assumption) (by assumption) ?q1 ?q2 ?q3 ⟨?q4, ?q5, ?q6, ?q7⟩; (case q1 => k_is); (case q2 => k_is); (case q3 => k_is); (case q4 => k_is); (case q5 => k_is); (case q6 => k_is); (case q7 => k_is)))
local macro_rules | `(tactic| walk_at "zM5") => `(tactic| (refine' L3.m_dm ?q1 ?q2 ?q3 ?q4 ?q5 ?q6; (case q1 => k_is); (case q2 => k_is); (case q3 => k_is); (case q4 => k_is); (case q5 => k_is); (case q6 => exact .all (L3.lA5 fun _ _ _ _ _ => rfl))))
local macro_rules | `(tactic| walk_at "zM4") => `(tactic| (refine' L3.m_dm ?q1 ?q2 ?q3 ?q4 ?q5 ?q6; (case q1 => k_is); (case q2 => k_is); (case q3 => k_is); (case q4 => k_is); (case q5 => k_is); (case q6 => exact .all (L3.lA4 fun _ _ _ _ => rfl))))
local macro_rules | `(tactic| walk_at "zMe5") => `(tactic| (refine' L3.m_dm ?q1 ?q2 ?q3 ?q4 ?q5 ?q6; (case q1 => k_is); (case q2 => k_is); (case q3 => k_is); (case q4 => k_is); (case q5 => k_is); (case q6 => refine' L3.m_be 5 rfl rfl ?r1 ?r2 ?r3; (case r1 => k_is); (case r2 => rfl); (case r3 => exact L3.lA5 fun _ _ _ _ _ => ⟨_, rfl, rfl⟩))))
local macro_rules | `(tactic| walk_at "zM1") => `(tactic| (refine' L3.m_dm ?q1 ?q2 ?q3 ?q4 ?q5 ?q6; (case q1 => k_is); (case q2 => k_is); (case q3 => k_is); (case q4 => k_is); (case q5 => k_is); (case q6 => exact .all (L3.lA1 fun _ => rfl))))
local macro_rules | `(tactic| walk_at "zM2") => `(tactic| (refine' L3.m_dm ?q1 ?q2 ?q3 ?q4 ?q5 ?q6; (case q1 => k_is); (case q2 => k_is); (case q3 => k_is); (case q4 => k_is); (case q5 => k_is); (case q6 => exact .all (L3.lA2 fun _ _ => rfl))))
local macro_rules | `(tactic| walk_at "zD1") => `(tactic| (refine' L3.m_dn (by assumption) (by assumption) ?q1 ?q2 ?q3 ?q4 ?q5; (case q1 => k_is); (case q2 => k_is); (case q3 => k_is); (case q4 => k_is); (case q5 => exact .all (L3.lA1 fun _ => rfl))))
local macro_rules | `(tactic| walk_at "zD3") => `(tactic| (refine' L3.m_dn (by assumption) (by assumption) ?q1 ?q2 ?q3 ?q4 ?q5; (case q1 => k_is); (case q2 => k_is); (case q3 => k_is); (case q4 => k_is); (case q5 => exact .all (L3.lA3 fun _ _ _ => rfl))))
local macro_rules | `(tactic| walk_at "zD2") => `(tactic| (refine' L3.m_dn (by assumption) (by assumption) ?q1 ?q2 ?q3 ?q4 ?q5; (case q1 => k_is); (case q2 => k_is); (case q3 => k_is); (case q4 => k_is); (case q5 => exact .all (L3.lA2 fun _ _ => rfl))))
local macro_rules | `(tactic| walk_at "zM3") => `(tactic| (refine' L3.m_dm ?q1 ?q2 ?q3 ?q4 ?q5 ?q6; (case q1 => k_is); (case q2 => k_is); (case q3 => k_is); (case q4 => k_is); (case q5 => k_is); (case q6 => exact .all (L3.lA3 fun _ _ _ => rfl))))
local macro_rules | `(tactic| walk_at "zD4") => `(tactic| (refine' L3.m_dn (by assumption) (by assumption) ?q1 ?q2 ?q3 ?q4 ?q5; (case q1 => k_is); (case q2 => k_is); (case q3 => k_is); (case q4 => k_is); (case q5 => exact .all (L3.lA4 fun _ _ _ _ => rfl))))
local macro_rules | `(tactic| walk_at "zk") => `(tactic| focus (repeat' first | k_is | apply L3.m_kc (by assumption) (by assumption) | exact .non | exact .int | exact .str | apply L3.KC.kt | apply L3.KCs.nil | apply L3.KCs.cons | exact Nat.le_of_ble_eq_true rfl | rfl))
local macro_rules | `(tactic| walk_at "zg") => `(tactic| focus (repeat' first | k_is | apply L3.m_kg (by assumption) (by assumption) | apply L3.KL.nil | apply L3.KL.cons | exact L2.EL.nil | apply L2.EL.cons | exact .non | exact .int | exact .str | apply L3.KC.kt | apply L3.KCs.nil | apply L3.KCs.cons | exact Nat.le_of_ble_eq_true rfl | rfl))
local macro_rules | `(tactic| walk_at "zf") => `(tactic| focus (repeat' first | k_is | apply L3.m_kf (by assumption) (by assumption) | exact trivial | apply And.intro | exact L2.EL.nil | apply L2.EL.cons | exact .non | exact .int | exact .str | apply L3.KC.kt | apply L3.KCs.nil | apply L3.KCs.cons | exact Nat.le_of_ble_eq_true rfl | rfl))
local macro_rules | `(tactic| walk_at "z3") => `(tactic| (refine' ⟨?q1, ?q2, ?q3⟩; (case q1 => k_is); (case q2 => k_is); (case q3 => k_is)))
local macro_rules | `(tactic| walk_at "zF") => `(tactic| (first | exact L3.m_al0 | (refine' L3.m_al1 ?q0 ?q9; (case q0 => (refine' ⟨⟨?q1, ?q2, ?q3, ?q4⟩, L3.m_na ?q5⟩; (case q1 => k_is); (case q2 => k_is); (case q3 => k_is); (case q4 => k_is); (case q5 => k_is))); (case q9 => walk_at "zF"))))
local macro_rules | `(tactic| walk_at "zI") => `(tactic| (first | exact L3.m_al0 | (refine' L3.m_al1 ?q0 ?q9; (case q0 => (refine' ⟨⟨⟨?q1, ?q2, ?q3, ?q4⟩, ?q5, ?q6, ?q7, ?q8⟩, ?qa⟩; (case q1 => k_is); (case q2 => k_is); (case q3 => k_is); (case q4 => k_is); (case q5 => k_is); (case q6 => k_is); (case q7 => k_is); (case q8 => k_is); (case qa => kit_is))); (case q9 => walk_at "zI"))))
local macro_rules | `(tactic| walk_at "zB") => `(tactic| (refine' PySem.W.mg_none_of (by assumption) (by assumption) ?q1; (case q1 => k_is)))
local macro_rules | `(tactic| walk_at "zG") => `(tactic| (refine' L3.m_g (by assumption) (by assumption) ?q1; (case q1 => k_is)))
open PySem PySem.W PyProof.Rows
set_option maxRecDepth 100000 in
set_option maxHeartbeats 0 in
theorem PySem.Challenge.cw_ringbeat_k85_desk_told_holds : PySem.Challenge.rw_ringbeat_k85_desk_told.Holds := by
 refine PySem.Challenge.hd ?_
 w_on
 k_fill
 refine My.walk (l := PySem.Challenge.rw_ringbeat_k85_desk_told) rfl rfl (fun w h Y => PySem.W.kIn_of Y) ?F
 case F =>
  intro w mg fa h KX G hmg
  refine' My.fin (a := .mk ..) hmg ?T ?b
  case T =>
   constructor
   all_goals try dsimp only [My.Adr.ct]
   iterate 7 walk_at "zC"
   walk_at "zM5"
   walk_at "zM4"
   walk_at "zMe5"
   (refine' L3.m_bd 4 0 rfl rfl ?r1 ?r2 ?r3 ?r4; (case r1 => k_is); (case r2 => rfl); (case r3 => exact (.cons ⟨_, rfl⟩ .nil)); (case r4 => exact L3.lA4 fun _ _ _ _ => ⟨_, rfl, rfl⟩))
   walk_at "zMe5"
   (refine' L3.m_bd 4 0 rfl rfl ?r1 ?r2 ?r3 ?r4; (case r1 => k_is); (case r2 => rfl); (case r3 => exact (.cons ⟨_, rfl⟩ .nil)); (case r4 => exact L3.lA4 fun _ _ _ _ => ⟨_, rfl, rfl⟩))
   iterate 3 walk_at "zM1"
   iterate 5 walk_at "zM2"
   iterate 4 walk_at "zD1"
   walk_at "zD3"
   iterate 2 walk_at "zD2"
   walk_at "zM3"
   iterate 4 walk_at "zD1"
   iterate 4 walk_at "zD2"
   walk_at "zD1"
   walk_at "zD2"
   walk_at "zD1"
   iterate 2 walk_at "zD2"
   walk_at "zD1"
   iterate 7 walk_at "zD2"
   walk_at "zM1"
   walk_at "zM2"
   iterate 3 walk_at "zD2"
   walk_at "zD3"
   iterate 2 walk_at "zD2"
   walk_at "zD3"
   walk_at "zD4"
   walk_at "zD1"
   iterate 2 walk_at "zk"
   walk_at "zg"
   walk_at "zf"
   iterate 7 walk_at "z3"
   iterate 10 walk_at "zF"
   iterate 3 walk_at "zI"
   iterate 12 walk_at "zB"
   iterate 7 walk_at "zG"
  exact fun s v => .of_eq rfl
