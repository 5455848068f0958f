import PyProof.Rows.All
import Wide.All
import OpenK.AllK
import Wide.FinOn
import PyProof.EqAt
import PyProof.EqKinds
import PyProof.TupleCall
import KE.BitLaws
import Open.SpecLaws
import KE.OsHead
import KE.OsGo
import PyProof.ExcInit
import PyProof.ExcClass3
import PyProof.ExcBaseAll.Exception
import PyProof.InstStoreFacts
import PyProof.ExcArgs
import KE.KTryMore
import VbdeamSpec
import PySem.Challenge.RW_stackback_s08_put
import PyVbdeam
namespace PySem.W.Fast
theorem tw14641462685618750334:True:=⟨⟩
theorem tw12562200713739548550:True:=⟨⟩
theorem tw17688901878997280384:True:=⟨⟩
theorem tw18407119470052361255:True:=⟨⟩
theorem tw6279563883562076581:True:=⟨⟩
theorem tw5577785010851634164:True:=⟨⟩
theorem tw1944846010621464559:True:=⟨⟩
theorem tw9419907781106739337:True:=⟨⟩
theorem tw4608129760495886340:True:=⟨⟩
theorem tw18309651082395113395:True:=⟨⟩
theorem tw9874655341577421918:True:=⟨⟩
theorem tw11651899625649938125:True:=⟨⟩
theorem tw268302551600422387:True:=⟨⟩
theorem tw12630741418022972088:True:=⟨⟩
theorem tw15653201896399402937:True:=⟨⟩
theorem tw15385452303626812247:True:=⟨⟩
theorem tw15784348050841121450:True:=⟨⟩
theorem tw4034316180312520162:True:=⟨⟩
theorem tw8167424602215435702:True:=⟨⟩
theorem tw10756982922149556471:True:=⟨⟩
theorem tw690377160861442302:True:=⟨⟩
theorem tw11860760981889132453:True:=⟨⟩
theorem tw10212228302881940671:True:=⟨⟩
theorem tw881208550848843445:True:=⟨⟩
theorem tw11469379041192819687:True:=⟨⟩
theorem tw11187937003963277183:True:=⟨⟩
theorem tw2778811261647190785:True:=⟨⟩
theorem tw13132219372802843958:True:=⟨⟩
theorem tw3543861619005597034:True:=⟨⟩
theorem tw12626929956661123667:True:=⟨⟩
theorem tw7503641800079884235:True:=⟨⟩
theorem tw1677836791400776590:True:=⟨⟩
theorem tw10057899649766424158:True:=⟨⟩
theorem tw16478978996197336312:True:=⟨⟩
theorem tw6128158677113713672:True:=⟨⟩
theorem tw14237551701749627643:True:=⟨⟩
theorem tw13927910353795652084:True:=⟨⟩
theorem tw8758186021724920286:True:=⟨⟩
theorem tw10364146903855014023:True:=⟨⟩
theorem tw11562168213368215759:True:=⟨⟩
theorem tw5371451396278086198:True:=⟨⟩
theorem tw10779585760479293199:True:=⟨⟩
theorem tw3887667687869015544:True:=⟨⟩
theorem tw12534388849035556269:True:=⟨⟩
theorem tw15696163517477292130:True:=⟨⟩
theorem tw4799115779591794397:True:=⟨⟩
theorem tw9547023195704001962:True:=⟨⟩
theorem tw7234919361122461308:True:=⟨⟩
theorem tw10547793589029816110:True:=⟨⟩
theorem tw12991416554327966862:True:=⟨⟩
theorem tw14457406314963222329:True:=⟨⟩
theorem tw983449646621930064:True:=⟨⟩
theorem tw13064260026709940077:True:=⟨⟩
theorem tw14298036098803425481:True:=⟨⟩
theorem tw2076076169976631892:True:=⟨⟩
theorem tw17268133500568280414:True:=⟨⟩
theorem tw8118482166408265411:True:=⟨⟩
theorem tw7184753074381729510:True:=⟨⟩
theorem tw15693475476875944307:True:=⟨⟩
theorem tw13810222104357324067:True:=⟨⟩
theorem tw14048233307931661094:True:=⟨⟩
theorem tw200680699723173499:True:=⟨⟩
theorem tw3603330983320640613:True:=⟨⟩
theorem tw18296065558118525561:True:=⟨⟩
theorem tw3750670913878288157:True:=⟨⟩
theorem tw2242281769422911747:True:=⟨⟩
theorem tw11884914282176821808:True:=⟨⟩
theorem tw14705088967677546371:True:=⟨⟩
theorem tw15861839512976236258:True:=⟨⟩
theorem tw8804288983203645687:True:=⟨⟩
theorem tw18007550726591094514:True:=⟨⟩
theorem tw13342417710420625459:True:=⟨⟩
theorem tw881605101788382886:True:=⟨⟩
theorem tw1884734633406740687:True:=⟨⟩
theorem tw684248971455698102:True:=⟨⟩
theorem tw5180255735832531280:True:=⟨⟩
theorem tw4948107719912127624:True:=⟨⟩
theorem tw9705561382810786476:True:=⟨⟩
theorem tw14076805910083736951:True:=⟨⟩
theorem tw6104473373660150272:True:=⟨⟩
theorem tw2795850520453256717:True:=⟨⟩
theorem tw11001437912648805157:True:=⟨⟩
theorem tw15369717689999925789:True:=⟨⟩
theorem tw12937584272609891021:True:=⟨⟩
theorem tw784476113932858179:True:=⟨⟩
theorem tw3216848723789476589:True:=⟨⟩
theorem tw4004224994038659014:True:=⟨⟩
theorem tw6344604979491539725:True:=⟨⟩
theorem tw10797601217642648589:True:=⟨⟩
theorem tw4441217722278449926:True:=⟨⟩
theorem tw14498402970440736582:True:=⟨⟩
theorem tw1504660387602955704:True:=⟨⟩
theorem tw3724916244830990107:True:=⟨⟩
theorem tw12192350076647649148:True:=⟨⟩
theorem tw5012595805485559429:True:=⟨⟩
theorem tw2085957538243043486:True:=⟨⟩
theorem tw4701836002284140779:True:=⟨⟩
theorem tw9835669812625125590:True:=⟨⟩
theorem tw7698686981904105308:True:=⟨⟩
theorem tw8816766233369514818:True:=⟨⟩
theorem tw16340780584459742440:True:=⟨⟩
theorem tw13970111668829053718:True:=⟨⟩
theorem tw17795075408579713640:True:=⟨⟩
theorem tw7762408859742011259:True:=⟨⟩
theorem tw5386775809758443288:True:=⟨⟩
theorem tw11723168573421274000:True:=⟨⟩
theorem tw3876404737211635955:True:=⟨⟩
theorem tw4815743004863699186:True:=⟨⟩
theorem tw15695128925030620051:True:=⟨⟩
theorem tw1934313356365995594:True:=⟨⟩
theorem tw18345271471395441792:True:=⟨⟩
theorem tw11146816555232907375:True:=⟨⟩
theorem tw8091842866076424984:True:=⟨⟩
theorem tw14202811513252194943:True:=⟨⟩
theorem tw8596404578071289592:True:=⟨⟩
theorem tw6017316395197531023:True:=⟨⟩
theorem tw970284071096269706:True:=⟨⟩
theorem tw86842681006297972:True:=⟨⟩
theorem tw1166994874053123166:True:=⟨⟩
theorem tw12721754468383470171:True:=⟨⟩
theorem tw89057069144895973:True:=⟨⟩
theorem tw13837340480332074122:True:=⟨⟩
theorem tw8630373024396217596:True:=⟨⟩
theorem tw8613530691858456070:True:=⟨⟩
theorem tw358748174333513791:True:=⟨⟩
theorem tw9822881252015372458:True:=⟨⟩
theorem tw5689774656264718330:True:=⟨⟩
theorem tw10727197339551204470:True:=⟨⟩
theorem tw15296570373066525785:True:=⟨⟩
theorem tw11822635642254659987:True:=⟨⟩
theorem tw2187275272067994035:True:=⟨⟩
theorem tw3871990870357465995:True:=⟨⟩
theorem tw7541221377314384743:True:=⟨⟩
theorem tw6470765383843874022:True:=⟨⟩
theorem tw16860877406159223263:True:=⟨⟩
theorem tw8369584429499634069:True:=⟨⟩
theorem tw5052831306983203901:True:=⟨⟩
theorem tw129343758926095515:True:=⟨⟩
theorem tw16896299125016054555:True:=⟨⟩
theorem tw12319022778893165268:True:=⟨⟩
theorem tw4299391630619016733:True:=⟨⟩
theorem tw1966963616186663217:True:=⟨⟩
theorem tw3482071182666618704:True:=⟨⟩
theorem tw13866904038947177799:True:=⟨⟩
theorem tw17803453494539489654:True:=⟨⟩
theorem tw1790735281497687312:True:=⟨⟩
theorem tw15815618178377772587:True:=⟨⟩
theorem tw194887636175176035:True:=⟨⟩
theorem tw18201822588824440318:True:=⟨⟩
theorem tw17362459687393960005:True:=⟨⟩
theorem tw5880102354445156714:True:=⟨⟩
theorem tw9378354729651112894:True:=⟨⟩
theorem tw15666117926114191103:True:=⟨⟩
theorem tw14982425458017608690:True:=⟨⟩
theorem tw11142077652827461445:True:=⟨⟩
theorem tw1878741457373171339:True:=⟨⟩
theorem tw11137986692221279619:True:=⟨⟩
theorem tw15311645904391430450:True:=⟨⟩
theorem tw9536676492583420202:True:=⟨⟩
theorem tw4902890369197952570:True:=⟨⟩
theorem tw6372279233218768920:True:=⟨⟩
theorem tw17826931528107719280:True:=⟨⟩
theorem tw3463131340301156292:True:=⟨⟩
theorem tw8485531252612453022:True:=⟨⟩
theorem tw9179230828301664520:True:=⟨⟩
theorem tw10086405040251562466:True:=⟨⟩
theorem tw5896219322551504845:True:=⟨⟩
theorem tw7026210157844200104:True:=⟨⟩
theorem tw16633001600162157525:True:=⟨⟩
theorem tw9765432252849013290:True:=⟨⟩
theorem tw16903514652672413634:True:=⟨⟩
theorem tw17332484909381766816:True:=⟨⟩
theorem tw7282479213477377694:True:=⟨⟩
theorem tw14718836369519820906:True:=⟨⟩
theorem tw13101754254849703609:True:=⟨⟩
theorem tw314449798286318274:True:=⟨⟩
theorem tw2764005882340955711:True:=⟨⟩
theorem tw11211532388238563662:True:=⟨⟩
theorem tw1286242013913275530:True:=⟨⟩
theorem tw3907804263948298271:True:=⟨⟩
theorem tw10408614642396003363:True:=⟨⟩
theorem tw13954451614872816295:True:=⟨⟩
theorem tw4543037664834250628:True:=⟨⟩
theorem tw5036965768127222465:True:=⟨⟩
theorem tw10647759682601852466:True:=⟨⟩
theorem tw12412736674045226181:True:=⟨⟩
theorem tw18256910796828282604:True:=⟨⟩
theorem tw14722023694811759334:True:=⟨⟩
theorem tw11215756147402676983:True:=⟨⟩
theorem tw1061797450232274012:True:=⟨⟩
theorem tw1786439994312630675:True:=⟨⟩
theorem tw806381740447063666:True:=⟨⟩
theorem tw4657350844175253971:True:=⟨⟩
theorem tw10132450086420850301:True:=⟨⟩
theorem tw8190561150754260870:True:=⟨⟩
theorem tw14799659593880222283:True:=⟨⟩
theorem tw10742459896698387515:True:=⟨⟩
theorem tw11536723804918727843:True:=⟨⟩
theorem tw6826925575811972428:True:=⟨⟩
theorem tw5037039177492746055:True:=⟨⟩
theorem tw17508401806539801800:True:=⟨⟩
theorem tw9433756037454091404:True:=⟨⟩
theorem tw8757144735654129512:True:=⟨⟩
theorem tw6725888514248817700:True:=⟨⟩
theorem tw14331638909375754665:True:=⟨⟩
theorem tw13026465616633109809:True:=⟨⟩
theorem tw1921536340814612806:True:=⟨⟩
theorem tw14498219225311146312:True:=⟨⟩
theorem tw8403675567151070450:True:=⟨⟩
theorem tw7384772289138853258:True:=⟨⟩
theorem tw2002788989295527331:True:=⟨⟩
theorem tw2198138637184915203:True:=⟨⟩
theorem tw9838165513845015447:True:=⟨⟩
theorem tw17989893819499331571:True:=⟨⟩
theorem tw15938653912851005262:True:=⟨⟩
theorem tw176930069763192115:True:=⟨⟩
theorem tw12895322902992089297:True:=⟨⟩
theorem tw15688258364266992992:True:=⟨⟩
theorem tw13240571789269757242:True:=⟨⟩
theorem tw4636217903561798867:True:=⟨⟩
theorem tw2222910511598617284:True:=⟨⟩
theorem tw14916738636362584711:True:=⟨⟩
theorem tw10528347806820387330:True:=⟨⟩
theorem tw12722108357580070169:True:=⟨⟩
theorem tw5497719579509932864:True:=⟨⟩
theorem tw6360213252248025488:True:=⟨⟩
theorem tw4713272693701990102:True:=⟨⟩
theorem tw14091080026024055519:True:=⟨⟩
theorem tw13525718796490869718:True:=⟨⟩
theorem tw13572326726115903266:True:=⟨⟩
theorem tw10288456079652395640:True:=⟨⟩
theorem tw7033263105072706266:True:=⟨⟩
theorem tw8542549571019779948:True:=⟨⟩
theorem tw2305930227468521057:True:=⟨⟩
theorem tw991450321598715349:True:=⟨⟩
theorem tw16323334282847779084:True:=⟨⟩
theorem tw8996506466114901407:True:=⟨⟩
theorem tw13278315734265798555:True:=⟨⟩
theorem tw15046827490113186672:True:=⟨⟩
theorem tw5877375734095364341:True:=⟨⟩
theorem tw493683695412662404:True:=⟨⟩
theorem tw5912552653024610116:True:=⟨⟩
theorem tw17764652488761699858:True:=⟨⟩
theorem tw745163599048104953:True:=⟨⟩
theorem tw5717404794633526331:True:=⟨⟩
theorem tw17111113059045150182:True:=⟨⟩
theorem tw3238463096672863888:True:=⟨⟩
theorem tw2312423112201532980:True:=⟨⟩
theorem tw14619245161412810087:True:=⟨⟩
theorem tw12130541668407237718:True:=⟨⟩
theorem tw3373910169661559059:True:=⟨⟩
theorem tw3704354488253369600:True:=⟨⟩
theorem tw6725087953454777499:True:=⟨⟩
theorem tw3473975511560919162:True:=⟨⟩
theorem tw13082768567140561898:True:=⟨⟩
theorem tw14977179538625745866:True:=⟨⟩
theorem tw17433839213568365146:True:=⟨⟩
theorem tw8838968433588645264:True:=⟨⟩
theorem tw13830618006481431052:True:=⟨⟩
theorem tw482593869053571192:True:=⟨⟩
theorem tw13398071858556719492:True:=⟨⟩
theorem tw16681840901925351508:True:=⟨⟩
theorem tw6677406381269206249:True:=⟨⟩
theorem tw771087721112445657:True:=⟨⟩
theorem tw15006111159946106166:True:=⟨⟩
theorem tw8889188427292327563:True:=⟨⟩
theorem tw14612921970592216055:True:=⟨⟩
theorem tw18060434827795493668:True:=⟨⟩
theorem tw9518657511622634312:True:=⟨⟩
theorem tw9045794200659248525:True:=⟨⟩
theorem tw380361138297675052:True:=⟨⟩
theorem tw1415687709409542063:True:=⟨⟩
theorem tw5308547321426902216:True:=⟨⟩
theorem tw13695890282808560121:True:=⟨⟩
theorem tw13930651133174853616:True:=⟨⟩
theorem tw17647640791900055080:True:=⟨⟩
theorem tw16727810137028075065:True:=⟨⟩
theorem tw7416344143612163174:True:=⟨⟩
theorem tw3795520487098999419:True:=⟨⟩
theorem tw5216901527889951047:True:=⟨⟩
theorem tw10021207601490671958:True:=⟨⟩
theorem tw2919982308611263315:True:=⟨⟩
theorem tw7994465616388018771:True:=⟨⟩
theorem tw6320671548356738575:True:=⟨⟩
theorem tw3367438324868404899:True:=⟨⟩
theorem tw16122059203714184133:True:=⟨⟩
theorem tw9085148099558202699:True:=⟨⟩
theorem tw14682165981082970204:True:=⟨⟩
theorem tw12707388227527512947:True:=⟨⟩
theorem tw609377480749854170:True:=⟨⟩
theorem tw3248130785703840235:True:=⟨⟩
theorem tw11762602440317129749:True:=⟨⟩
theorem tw7883913904450173352:True:=⟨⟩
theorem tw17981641597759628870:True:=⟨⟩
theorem tw3530887664682244506:True:=⟨⟩
theorem tw5263682668052765283:True:=⟨⟩
theorem tw15812524300523454121:True:=⟨⟩
theorem tw16615821367617579517:True:=⟨⟩
theorem tw2583487736919891602:True:=⟨⟩
theorem tw13480585123111833512:True:=⟨⟩
theorem tw5390824867498720332:True:=⟨⟩
theorem tw8526749266246954738:True:=⟨⟩
theorem tw17086153263889611895:True:=⟨⟩
theorem tw5520429479708611073:True:=⟨⟩
theorem tw14216882558133837412:True:=⟨⟩
theorem tw13541666963155357173:True:=⟨⟩
theorem tw16065947849255981567:True:=⟨⟩
theorem tw7664392201405349841:True:=⟨⟩
theorem tw5598459996475389636:True:=⟨⟩
theorem tw7946272316266865449:True:=⟨⟩
theorem tw15672971929708975245:True:=⟨⟩
theorem tw64192629806163451:True:=⟨⟩
theorem tw12035167895302818761:True:=⟨⟩
theorem tw4343560647710154854:True:=⟨⟩
theorem tw6222139338190321574:True:=⟨⟩
theorem tw7780553123101116295:True:=⟨⟩
theorem tw7310796620674214940:True:=⟨⟩
theorem tw6028793713065554691:True:=⟨⟩
theorem tw9725634034674068743:True:=⟨⟩
theorem tw13752065253181339442:True:=⟨⟩
theorem tw7678815371313928256:True:=⟨⟩
theorem tw12681716010529088333:True:=⟨⟩
theorem tw12167058184327357827:True:=⟨⟩
theorem tw818110457220305558:True:=⟨⟩
theorem tw3144833817799862390:True:=⟨⟩
theorem tw5635980596939848672:True:=⟨⟩
theorem tw2059079143984066283:True:=⟨⟩
theorem tw4160049652139430270:True:=⟨⟩
theorem tw8440734827831973407:True:=⟨⟩
theorem tw1018053629179560739:True:=⟨⟩
theorem tw10085526546288087987:True:=⟨⟩
theorem tw3192141460250686318:True:=⟨⟩
theorem tw2423775170454587828:True:=⟨⟩
theorem tw11926063914838227882:True:=⟨⟩
theorem tw523986673796092608:True:=⟨⟩
theorem tw17547327634451434994:True:=⟨⟩
theorem tw8378612590561502769:True:=⟨⟩
theorem tw280503821144632534:True:=⟨⟩
theorem tw8797530503563630005:True:=⟨⟩
theorem tw8297522504923237026:True:=⟨⟩
theorem tw7677466596354680139:True:=⟨⟩
theorem tw5716054000833227126:True:=⟨⟩
theorem tw3602697800130083188:True:=⟨⟩
theorem tw2097811107866398738:True:=⟨⟩
theorem tw16770569926642909172:True:=⟨⟩
theorem tw14002033527383083437:True:=⟨⟩
theorem tw13411225127596621391:True:=⟨⟩
theorem tw4999493063685290114:True:=⟨⟩
theorem tw12855758851346073080:True:=⟨⟩
theorem tw8949253083426362128:True:=⟨⟩
theorem tw4720845905886471003:True:=⟨⟩
theorem tw15451457819620385689:True:=⟨⟩
theorem tw14560646889324077614:True:=⟨⟩
theorem tw14533197164993065631:True:=⟨⟩
theorem tw12063448627211383433:True:=⟨⟩
theorem tw17789649203757643256:True:=⟨⟩
theorem tw5687619936167954134:True:=⟨⟩
theorem tw12815546068131716173:True:=⟨⟩
theorem tw5168291627553339645:True:=⟨⟩
theorem tw2339233174635982672:True:=⟨⟩
theorem tw15729460717851508364:True:=⟨⟩
theorem tw13193381204647766371:True:=⟨⟩
theorem tw12485170463128894949:True:=⟨⟩
theorem tw13850270698373976606:True:=⟨⟩
theorem tw7151819809106047628:True:=⟨⟩
theorem tw657122343986411359:True:=⟨⟩
theorem tw13311191234434853656:True:=⟨⟩
theorem tw5352173687261132635:True:=⟨⟩
theorem tw17454897383792644199:True:=⟨⟩
theorem tw13625870488211673544:True:=⟨⟩
theorem tw16803117398642813655:True:=⟨⟩
theorem tw5639738304009849191:True:=⟨⟩
theorem tw13827441628927621466:True:=⟨⟩
theorem tw14739910223417068097:True:=⟨⟩
theorem tw4320575047035497917:True:=⟨⟩
theorem tw4192561903224098605:True:=⟨⟩
theorem tw18030034061491558854:True:=⟨⟩
theorem tw11280231964032132085:True:=⟨⟩
theorem tw7254476393935806218:True:=⟨⟩
theorem tw5320887387298060839:True:=⟨⟩
theorem tw11893445097321245869:True:=⟨⟩
theorem tw13580375816651757101:True:=⟨⟩
theorem tw6340242904503181044:True:=⟨⟩
theorem tw16730335879919591065:True:=⟨⟩
theorem tw10264797382344249336:True:=⟨⟩
theorem tw13596483968981642347:True:=⟨⟩
theorem tw16764973506926151940:True:=⟨⟩
theorem tw15226294770705988696:True:=⟨⟩
theorem tw15761164155192772858:True:=⟨⟩
theorem tw12585502006115166469:True:=⟨⟩
theorem tw759066645309519562:True:=⟨⟩
theorem tw15863324897321202731:True:=⟨⟩
theorem tw8975090879473266971:True:=⟨⟩
theorem tw2394057738053632498:True:=⟨⟩
theorem tw526240221491100794:True:=⟨⟩
theorem tw8086300136014264573:True:=⟨⟩
theorem tw985176620425130077:True:=⟨⟩
theorem tw12940853542785882557:True:=⟨⟩
theorem tw4176945007426647492:True:=⟨⟩
theorem tw1120758467930961959:True:=⟨⟩
theorem tw15543360303534128737:True:=⟨⟩
theorem tw15264370913552557444:True:=⟨⟩
theorem tw12041597745265168443:True:=⟨⟩
theorem tw16967663300661683185:True:=⟨⟩
theorem tw11915931298819524507:True:=⟨⟩
theorem tw18115537590510479647:True:=⟨⟩
theorem tw11142367029622141348:True:=⟨⟩
theorem tw6578356595743619307:True:=⟨⟩
theorem tw5582798602061926747:True:=⟨⟩
theorem tw12246973501401187314:True:=⟨⟩
theorem tw11461139264914732722:True:=⟨⟩
theorem tw14097757458533485773:True:=⟨⟩
theorem tw13287906614536634368:True:=⟨⟩
theorem tw17298385786649097485:True:=⟨⟩
theorem tw17563741285218912401:True:=⟨⟩
theorem tw4117847126026413857:True:=⟨⟩
theorem tw770596336929901415:True:=⟨⟩
theorem tw15811652091246464825:True:=⟨⟩
theorem tw13864897656291777750:True:=⟨⟩
theorem tw11401690647407098968:True:=⟨⟩
theorem tw12402982190009736743:True:=⟨⟩
theorem tw12710425993750410471:True:=⟨⟩
theorem tw13932336875295060834:True:=⟨⟩
theorem tw1741384578583037300:True:=⟨⟩
theorem tw8394445526380944908:True:=⟨⟩
theorem tw11845477487401849746:True:=⟨⟩
theorem tw988492707792738344:True:=⟨⟩
theorem tw4827091121972348483:True:=⟨⟩
theorem tw15036761660516847867:True:=⟨⟩
theorem tw12995301455198329493:True:=⟨⟩
theorem tw3092414094065093572:True:=⟨⟩
theorem tw7271523476478694276:True:=⟨⟩
theorem tw17079008584922991612:True:=⟨⟩
theorem tw15384301227052680264:True:=⟨⟩
theorem tw11526897257946226651:True:=⟨⟩
theorem tw5740673479397136462:True:=⟨⟩
theorem tw7521834664968269713:True:=⟨⟩
theorem tw4620824957572297587:True:=⟨⟩
theorem tw10464899715392128377:True:=⟨⟩
theorem tw4493896557179763504:True:=⟨⟩
theorem tw398463721610261094:True:=⟨⟩
theorem tw8623616779003473915:True:=⟨⟩
theorem tw15876077328658092636:True:=⟨⟩
theorem tw12176014622546268784:True:=⟨⟩
theorem tw3583245795223546829:True:=⟨⟩
theorem tw14920891637976548273:True:=⟨⟩
theorem tw16951906286814546918:True:=⟨⟩
theorem tw11943116933106048357:True:=⟨⟩
theorem tw6420601281115732459:True:=⟨⟩
theorem tw17586173440049287426:True:=⟨⟩
theorem tw1655283525480999991:True:=⟨⟩
theorem tw11582033965619309417:True:=⟨⟩
theorem tw4267423796669573095:True:=⟨⟩
theorem tw7745126412156962494:True:=⟨⟩
theorem tw17496734647955692506:True:=⟨⟩
theorem tw15041118407932882480:True:=⟨⟩
theorem tw8557160924586742547:True:=⟨⟩
theorem tw11315191120468718915:True:=⟨⟩
theorem tw13377741968947399565:True:=⟨⟩
theorem tw4269986276595018639:True:=⟨⟩
theorem tw17063226453522439007:True:=⟨⟩
theorem tw13355362418853488515:True:=⟨⟩
theorem tw15938865722872588568:True:=⟨⟩
theorem tw9008018688827480989:True:=⟨⟩
theorem tw4579018471104688580:True:=⟨⟩
theorem tw12736346102906373543:True:=⟨⟩
theorem tw5028218600781284180:True:=⟨⟩
theorem tw17000942183230802296:True:=⟨⟩
theorem tw10255383891783508028:True:=⟨⟩
theorem tw17859122958855862362:True:=⟨⟩
theorem tw16743569552214521804:True:=⟨⟩
theorem tw9835996157724366205:True:=⟨⟩
theorem tw7310352055594124838:True:=⟨⟩
theorem tw14368861300860214271:True:=⟨⟩
theorem tw3089284987799485471:True:=⟨⟩
theorem tw17971894815158536781:True:=⟨⟩
theorem tw8186772890470537972:True:=⟨⟩
theorem tw6752214878077317217:True:=⟨⟩
theorem tw12963443252964206643:True:=⟨⟩
theorem tw1470650915868551026:True:=⟨⟩
theorem tw13068095613013065716:True:=⟨⟩
theorem tw2314021330919909127:True:=⟨⟩
theorem tw16432658163877963552:True:=⟨⟩
theorem tw3571162859984873979:True:=⟨⟩
theorem tw9005394555317043532:True:=⟨⟩
theorem tw11920316377540916626:True:=⟨⟩
theorem tw5116803518024330082:True:=⟨⟩
theorem tw15012980011180263472:True:=⟨⟩
theorem tw12686085307811272163:True:=⟨⟩
theorem tw13064672426655625890:True:=⟨⟩
theorem tw16492391946184590997:True:=⟨⟩
theorem tw2186976176743837780:True:=⟨⟩
theorem tw17265753025711229762:True:=⟨⟩
theorem tw17665201725502438319:True:=⟨⟩
theorem tw3017800979607377999:True:=⟨⟩
theorem tw16071469046477155345:True:=⟨⟩
theorem tw5381990382002475529:True:=⟨⟩
theorem tw711759904549543419:True:=⟨⟩
theorem tw8930362738774825134:True:=⟨⟩
theorem tw1148999352533536379:True:=⟨⟩
theorem tw7848362035701171709:True:=⟨⟩
theorem tw10793495185543506182:True:=⟨⟩
theorem tw4152320477386435244:True:=⟨⟩
theorem tw11039382211508769736:True:=⟨⟩
theorem tw2557401764642575322:True:=⟨⟩
theorem tw5542639137133211228:True:=⟨⟩
theorem tw7587749947920503959:True:=⟨⟩
theorem tw17001632433213143153:True:=⟨⟩
theorem tw15081681908474595838:True:=⟨⟩
theorem tw8405970469169687006:True:=⟨⟩
theorem tw12863603554892381329:True:=⟨⟩
theorem tw3002864285190181673:True:=⟨⟩
theorem tw17988984399562552528:True:=⟨⟩
theorem tw3434919395536004689:True:=⟨⟩
theorem tw15525390169784569566:True:=⟨⟩
theorem tw14903680795516397499:True:=⟨⟩
theorem tw4476621646666018373:True:=⟨⟩
theorem tw7021413837866072869:True:=⟨⟩
theorem tw115299947616291136:True:=⟨⟩
theorem tw17509499002805570671:True:=⟨⟩
theorem tw13118010185506088258:True:=⟨⟩
theorem tw10783455557993577106:True:=⟨⟩
theorem tw4364193055258455631:True:=⟨⟩
theorem tw8412626654196534493:True:=⟨⟩
theorem tw11275102683255135577:True:=⟨⟩
theorem tw7786152423905701732:True:=⟨⟩
theorem tw5383688865717551799:True:=⟨⟩
theorem tw3046075605895250010:True:=⟨⟩
theorem tw2679077315423874515:True:=⟨⟩
theorem tw13537757222421535072:True:=⟨⟩
theorem tw8049239737015585391:True:=⟨⟩
theorem tw228648563436921238:True:=⟨⟩
theorem tw9408831505588662582:True:=⟨⟩
theorem tw14710403702555578341:True:=⟨⟩
theorem tw17614433855230084478:True:=⟨⟩
theorem tw31128345221776507:True:=⟨⟩
theorem tw87309272733925466:True:=⟨⟩
theorem tw10111847830777018279:True:=⟨⟩
theorem tw10631878908155172456:True:=⟨⟩
theorem tw16278724483466616862:True:=⟨⟩
theorem tw762215894908906471:True:=⟨⟩
theorem tw2742348724733023148:True:=⟨⟩
theorem tw7496266737928137713:True:=⟨⟩
end PySem.W.Fast
section
-- CHANGE: your row's module here,as the last of these rows
set_option Elab.async false
set_option linter.all false
set_option maxRecDepth 100000
namespace L2
open PySem PySem.Spec PyProof.Rows
abbrev Key:=Sum Int Str
def qZ:Key→Value→Bool
  | .inl k,v=>Value.isInt k v
  | .inr x,v=>Value.isStrOf x v
def Up (w:World):Key→Int
  | .inl k=>hashInt k
  | .inr x=>hashStr w x
theorem cH:∀ {k:Key} {v:Value},qZ k v=true→(∃ i t,k=Sum.inl i∧v=Value.int i t)∨(∃ x t,k=Sum.inr x∧v=Value.str x t)
  | .inl i,v,h=>by
    obtain ⟨t,e⟩:=Value.isInt_shape (k:=i) (v:=v) h
    exact .inl ⟨i,t,rfl,e⟩
  | .inr x,v,h=>by
    obtain ⟨t,e⟩:=Value.isStrOf_shape (x:=x) (v:=v) h
    exact .inr ⟨x,t,rfl,e⟩
theorem Gs (i:Int) (t:Tok):qZ (.inl i) (.int i t)=true:=by simp [qZ,Value.isInt]
theorem Gr (x:Str) (t:Tok):qZ (.inr x) (.str x t)=true:=by simp [qZ,Value.isStrOf]
theorem Q_ (a b:Int):decide ((Sum.inl a:Key)=Sum.inl b)=(a==b):=by
  by_cases e:a=b
  · subst e; simp
  · have h:¬ (Sum.inl a:Key)=Sum.inl b:=fun q=>e (Sum.inl.inj q)
    rw [decide_eq_false h]
    exact (beq_eq_false_iff_ne.mpr e).symm
theorem Kc (a b:Str):decide ((Sum.inr a:Key)=Sum.inr b)=decide (a=b):=by
  by_cases e:a=b
  · subst e; simp
  · have h:¬ (Sum.inr a:Key)=Sum.inr b:=fun q=>e (Sum.inr.inj q)
    rw [decide_eq_false h,decide_eq_false e]
theorem Q9 (a:Int) (b:Str):decide ((Sum.inl a:Key)=Sum.inr b)=false:=decide_eq_false (fun q=>nomatch q)
theorem Q8 (a:Str) (b:Int):decide ((Sum.inr a:Key)=Sum.inl b)=false:=decide_eq_false (fun q=>nomatch q)
def cY (prog:Program) (w:World):PySem.KeyKind prog w Key where
  is:=qZ
  hash:=Up w
  inj:=fun v a b ha hb=>by
    rcases cH ha with ⟨i,t,rfl,rfl⟩ | ⟨x,t,rfl,rfl⟩
    · rcases cH hb with ⟨j,u,rfl,e⟩ | ⟨y,u,rfl,e⟩
      · injection e with e1 _; rw [e1]
      · exact nomatch e
    · rcases cH hb with ⟨j,u,rfl,e⟩ | ⟨y,u,rfl,e⟩
      · exact nomatch e
      · injection e with e1 _; rw [e1]
  byValue:=fun k v h=>by
    rcases cH h with ⟨i,t,rfl,rfl⟩ | ⟨x,t,rfl,rfl⟩ <;> rfl
  pyHash:=fun hv h=>by
    rcases cH hv with ⟨i,t,rfl,rfl⟩ | ⟨x,t,rfl,rfl⟩
    · exact wpAny_pyHash_int h
    · exact wpAny_pyHash_str h
  eqBool:=fun hu hv h=>by
    rcases cH hu with ⟨i,t,rfl,rfl⟩ | ⟨x,t,rfl,rfl⟩
    · rcases cH hv with ⟨j,u,rfl,rfl⟩ | ⟨y,u,rfl,rfl⟩
      · rw [Q_] at h; exact wpAny_eqBool_int h
      · rw [Q9] at h; exact SeqAt.EqAt.int_str i t y u _ _ _ _ h
    · rcases cH hv with ⟨j,u,rfl,rfl⟩ | ⟨y,u,rfl,rfl⟩
      · rw [Q8] at h; exact SeqAt.EqAt.str_int x t j u _ _ _ _ h
      · rw [Kc] at h; exact wpAny_eqBool_str h
  «strs»:=fun k x t v h=>by
    rcases cH h with ⟨i,u,rfl,e⟩ | ⟨y,u,rfl,e⟩
    · exact nomatch e
    · injection e with e1 _
      subst e1
      cases v <;> rfl
theorem zb (prog:Program) (w:World) (i:Int) (t:Tok):(cY prog w).is (.inl i) (.int i t)=true:=Gs i t
theorem jZ (prog:Program) (w:World) (x:Str) (t:Tok):(cY prog w).is (.inr x) (.str x t)=true:=Gr x t
end L2
namespace L2
open PySem PySem.Spec PyProof.Rows
inductive V where
  | non | bl (b:Bool) | int (i:Int) | str (x:Str) | byt (b:Array UInt8) | flt (b:UInt64) | ref (a:Addr) | ty (n:String)
  deriving DecidableEq
def RelV:V→Value→Prop
  | .non,u=>u=Value.none
  | .bl b,u=>u=Value.bool b
  | .int i,u=>∃ t,u=Value.int i t
  | .str x,u=>∃ t,u=Value.str x t
  | .byt b,u=>∃ t,u=Value.bytes b t
  | .flt b,u=>∃ t,u=Value.float b t
  | .ref a,u=>u=Value.ref a
  | .ty n,u=>u=Value.type n
abbrev Vals:List V→List Value→Prop:=Paired RelV
theorem Vals.length {xs:List V} {us:List Value} (r:Vals xs us):xs.length=us.length:=Paired.length r
theorem Vals.get:∀ {xs:List V} {us:List Value} {i:Nat} {x:V},Vals xs us→xs[i]?=some x→∃ u,us[i]?=some u∧RelV x u
  | _,_,_,_,.nil,e=>by simp at e
  | _,_,0,_,.cons r _,e=>by simp at e; subst e; exact ⟨_,rfl,r⟩
  | _,_,i+1,x,.cons _ t,e=>by
    obtain ⟨u,h1,h2⟩:=Vals.get (i:=i) (x:=x) t (by simpa using e)
    exact ⟨u,by simpa using h1,h2⟩
theorem Vals.append:∀ {xs ys:List V} {us ws:List Value},Vals xs us→Vals ys ws→Vals (xs++ys) (us++ws)
  | _,_,_,_,.nil,s=>s
  | _,_,_,_,.cons r t,s=>.cons r (Vals.append t s)
theorem Vals.take:∀ {xs:List V} {us:List Value} (n:Nat),Vals xs us→Vals (xs.take n) (us.take n)
  | _,_,0,_=>.nil
  | _,_,_+1,.nil=>.nil
  | _,_,n+1,.cons r t=>.cons r (Vals.take n t)
theorem Vals.drop:∀ {xs:List V} {us:List Value} (n:Nat),Vals xs us→Vals (xs.drop n) (us.drop n)
  | _,_,0,r=>r
  | _,_,_+1,.nil=>.nil
  | _,_,n+1,.cons _ t=>Vals.drop n t
def mV:Option V→Option Value→Prop
  | some v,some u=>RelV v u
  | none,none=>True
  | _,_=>False
def KV {κ:Type}:List (κ×V)→List (κ×Value)→Prop:=Paired fun (p:κ×V) (q:κ×Value)=>p.1=q.1∧RelV p.2 q.2
def kV:Key→V
  | .inl i=>.int i
  | .inr x=>.str x
inductive HO where
  | lst (xs:List V)
  | tup (xs:List V)
  | dK (kvs:List (Key×V)) | dT (kvs:List (List Key×V))
  | set (S:Int→Bool) (n:Nat)
  | ins (C dx:Addr) (fs:List (Str×V))
  | own (x:Addr)
  | xd (fs:List (Str×V))
  | met (f x:Addr)
  | rng (lo hi:Int)
  | frz (o:Obj) (u:HO)
  | tbl (ps:Array Value)
  | ext (φ:Heap→Prop)
abbrev Hp:=Addr→Option HO
def upd (H:Hp) (a:Addr) (o:HO):Hp:=fun b=>if b=a then some o else H b
theorem ak {H:Hp} {a:Addr} {o:HO}:upd H a o a=some o:=by unfold upd; rw [if_pos rfl]
theorem au {H:Hp} {a b:Addr} {o:HO} (h:b≠a):upd H a o b=H b:=by unfold upd; rw [if_neg h]
theorem qU {H:Hp} {a b:Addr} {o u:HO} (h:H a=some o) (h':H b=some u) (d:o≠u):a≠b:=by
  intro e; subst e; rw [h] at h'; exact d (Option.some.inj h')
theorem aB {H:Hp} {a b:Addr} {o:HO} (h:H a=some o) (h':H b=none):a≠b:=by
  intro e; subst e; rw [h] at h'; cases h'
section
variable (P:Program) (w:World)
def cX (H:Hp) (h:Heap) (a:Addr):HO→Prop
  | .lst xs=>xs.length≤sizeLine∧∃ (its:List Value) (n:Nat),Vals xs its∧h.get? a=some { cls:=.type "list",data:=.seq its.toArray n }
  | .tup xs=>xs.length≤sizeLine∧∃ its:List Value,Vals xs its∧IsTup h a its.toArray
  | .dK kvs=>kvs.length≤sizeLine∧(a==sysModules)=false∧∃ vs,KV kvs vs∧h.DictOf (cY P w) a vs
  | .dT kvs=>kvs.length≤sizeLine∧(a==sysModules)=false∧∃ xs:List (List Key×Addr×Value),
      Paired (fun (p:List Key×V) (q:List Key×Addr×Value)=>p.1=q.1∧H q.2.1=some (.tup (p.1.map kV))∧RelV p.2 q.2.2) kvs xs ∧
      ∃ o es ep,h.get? a=some o∧o.ExactDict∧o.data=.dict es ep∧es.toList=xs.map (entryOfKey (tupleKind (cY P w)))∧(xs.map (·.1)).Nodup
  | .set S n=>h.SetOf (intKind P w) a S n
  | .ins C dx fs=>H dx=some (.own a)∧fs.length≤1000∧dx≠a∧h.get? a=some (PySem.W.instObj C dx) ∧
      ∃ mA,h.Ns1 dx mA∧(∀ f,mV (fs.lookup f) (mA f))∧PySem.Within mA (fs.map (·.1))
  | .own _=>∃ o,h.get? a=some o
  | .xd fs=>∃ mA,h.Ns1 a mA∧∀ f,mV (fs.lookup f) (mA f)
  | .rng lo hi=>∃ t u v,h.get? a=some { cls:=.type "range",data:=.fields #[.int lo t,.int hi u,.int 1 v] }
  | .frz o u=>h.get? a=some o∧cX H h a u
  | .tbl ps=>h.get? a=some { cls:=.none,data:=.fields ps }
  | .met f x=>h.get? a=some (PySem.W.methodObj (.ref f) (.ref x))
  | .ext φ=>φ h∧(∃ o,h.get? a=some o)∧∀ h1 h2:Heap,φ h1→(∀ o,h1.get? a=some o→h2.get? a=some o)→φ h2
def lN (H:Hp) (h:Heap):Prop:=∀ a o,H a=some o→cX P w H h a o
end
section
variable {P:Program} {w:World} {H H':Hp} {h h':Heap} {a:Addr} {o:HO}
theorem cX.lt (x:cX P w H h a o):a < h.objs.size:=by
  cases o with
  | lst xs=>obtain ⟨_,_,_,_,e⟩:=x; exact Heap.lt_size e
  | tup xs=>obtain ⟨_,_,_,p⟩:=x; exact p.lt
  | dK kvs=>obtain ⟨_,_,_,_,o,_,_,e,_⟩:=x; exact Heap.lt_size e
  | dT kvs=>obtain ⟨_,_,_,_,o,_,_,e,_⟩:=x; exact Heap.lt_size e
  | set S n=>obtain ⟨o,_,_,_,e,_⟩:=x; exact Heap.lt_size e
  | ins C dx fs=>obtain ⟨_,_,_,e,_⟩:=x; exact Heap.lt_size e
  | own y=>obtain ⟨_,e⟩:=x; exact Heap.lt_size e
  | xd fs=>obtain ⟨_,⟨_,_,_,e,_⟩,_⟩:=x; exact Heap.lt_size e
  | rng lo hi=>obtain ⟨_,_,_,e⟩:=x; exact Heap.lt_size e
  | frz ob u=>obtain ⟨e,_⟩:=x; exact Heap.lt_size e
  | tbl ps=>exact Heap.lt_size (show h.get? a=some _ from x)
  | met f y=>exact Heap.lt_size (show h.get? a=some _ from x)
  | ext φ=>obtain ⟨_,⟨_,e⟩,_⟩:=x; exact Heap.lt_size e
theorem Paired.Sq {α β:Type} {F G:α→β→Prop}:∀ {l₁:List α} {l₂:List β},Paired F l₁ l₂→(∀ a b,F a b→G a b)→Paired G l₁ l₂
  | _,_,.nil,_=>.nil
  | _,_,.cons r t,f=>.cons (f _ _ r) (Paired.Sq t f)
theorem cX.stay (x:cX P w H h a o) (k:∀ b u,(b=a∨H b=some (.own a))→h.get? b=some u→h'.get? b=some u)
    (ho:∀ b,H b=some (.own a)→H' b=some (.own a)) (ht:∀ b xs,H b=some (.tup xs)→H' b=some (.tup xs)):cX P w H' h' a o:=by
  induction o with
  | lst xs=>obtain ⟨z,its,n,r,e⟩:=x; exact ⟨z,its,n,r,k _ _ (.inl rfl) e⟩
  | tup xs=>obtain ⟨z,its,r,ob,e,c⟩:=x; exact ⟨z,its,r,ob,k _ _ (.inl rfl) e,c⟩
  | dK kvs=>obtain ⟨z,y,vs,r,ob,es,ep,e,c⟩:=x; exact ⟨z,y,vs,r,ob,es,ep,k _ _ (.inl rfl) e,c⟩
  | dT kvs =>
    obtain ⟨z,y,xs,r,ob,es,ep,e,c⟩:=x
    exact ⟨z,y,xs,Paired.Sq r fun p q z=>⟨z.1,ht _ _ z.2.1,z.2.2⟩,ob,es,ep,k _ _ (.inl rfl) e,c⟩
  | set S n=>obtain ⟨ob,es,ep,t,e,c⟩:=x; exact ⟨ob,es,ep,t,k _ _ (.inl rfl) e,c⟩
  | ins C dx fs =>
    obtain ⟨d,z,ne,e,mA,⟨od,es,ep,e2,c⟩,r⟩:=x
    exact ⟨ho _ d,z,ne,k _ _ (.inl rfl) e,mA,⟨od,es,ep,k _ _ (.inr d) e2,c⟩,r⟩
  | own y=>obtain ⟨ob,e⟩:=x; exact ⟨ob,k _ _ (.inl rfl) e⟩
  | xd fs=>obtain ⟨mA,⟨od,es,ep,e,c⟩,r⟩:=x; exact ⟨mA,⟨od,es,ep,k _ _ (.inl rfl) e,c⟩,r⟩
  | rng lo hi=>obtain ⟨t,u,v,e⟩:=x; exact ⟨t,u,v,k _ _ (.inl rfl) e⟩
  | frz ob u ih=>obtain ⟨e,q⟩:=x; exact ⟨k _ _ (.inl rfl) e,ih q⟩
  | tbl ps =>
    have e:h.get? a=some { cls:=.none,data:=.fields ps }:=x
    show h'.get? a=some { cls:=.none,data:=.fields ps }
    exact k a _ (.inl rfl) e
  | met f y =>
    have e:h.get? a=some (PySem.W.methodObj (.ref f) (.ref y)):=x
    show h'.get? a=some (PySem.W.methodObj (.ref f) (.ref y))
    exact k a _ (.inl rfl) e
  | ext φ=>obtain ⟨p,⟨o,e⟩,st⟩:=x; exact ⟨st _ _ p fun o q=>k _ _ (.inl rfl) q,⟨o,k _ _ (.inl rfl) e⟩,st⟩
theorem lN.lt (x:lN P w H h) (e:H a=some o):a < h.objs.size:=(x a o e).lt
theorem lN.fresh (x:lN P w H h) (e:h.objs.size≤a):H a=none:=by
  cases q:H a with
  | none=>rfl
  | some u=>exact absurd (Nat.lt_of_lt_of_le (x.lt q) e) (Nat.lt_irrefl _)
theorem lN.kept (x:lN P w H h) (k:∀ b u,h.get? b=some u→h'.get? b=some u):lN P w H h':=fun a o e =>
  (x a o e).stay (fun b u _ q=>k b u q) (fun _ q=>q) fun _ _ q=>q
theorem lN.laid (x:lN P w H h) (k:∀ b u,h.get? b=some u→h'.get? b=some u) (hp:h.objs.size≤a) (new:cX P w (upd H a o) h' a o):lN P w (upd H a o) h':=fun b u e=>by
  have hn:=x.fresh hp
  by_cases hb:b=a
  · subst hb; rw [ak] at e; cases e; exact new
  · rw [au hb] at e
    exact (x b u e).stay (fun c v _ q=>k c v q) (fun c q=>by rw [au (aB q hn)]; exact q) fun c xs q=>by rw [au (aB q hn)]; exact q
end
def Rd (H:Hp) (a:Addr) (u:HO):Prop:=H a=some u∨∃ o,H a=some (.frz o u)
theorem Rd.ok {P:Program} {w:World} {H:Hp} {h:Heap} {a:Addr} {u:HO} (r:Rd H a u) (x:lN P w H h):cX P w H h a u:=by
  rcases r with r | ⟨o,r⟩
  · exact x a u r
  · obtain ⟨_,q⟩:=x a _ r
    exact q
def Tr:Option HO→Prop
  | some (.lst _)=>True
  | some (.dK _)=>True
  | some (.dT _)=>True
  | some (.set _ _)=>True
  | some (.ins _ _ _)=>True
  | some (.ext _)=>True
  | _=>False
section
variable {P:Program} {w:World} {H:Hp} {h h':Heap} {x e:Addr} {o':HO}
theorem lN.write (ok:lN P w H h) (mu:Tr (H x)) (he:e=x∨H e=some (.own x)) (k:∀ b u,b≠e→h.get? b=some u→h'.get? b=some u) (heo:∃ u,h'.get? e=some u)
    (new:cX P w (upd H x o') h' x o'):lN P w (upd H x o') h':=fun b u q=>by
  have nown:∀ c y,H c=some (.own y)→c≠x:=fun c y r z=>by subst z; rw [r] at mu; exact mu
  have ntup:∀ c xs,H c=some (.tup xs)→c≠x:=fun c xs r z=>by subst z; rw [r] at mu; exact mu
  by_cases hb:b=x
  · subst hb; rw [ak] at q; cases q; exact new
  · rw [au hb] at q
    by_cases hbe:b=e
    · have q':H b=some (.own x):=by
        rcases he with z | z
        · exact absurd (hbe.trans z) hb
        · rw [hbe]; exact z
      rw [q] at q'; cases q'
      obtain ⟨v,hv⟩:=heo
      exact ⟨v,by rw [hbe]; exact hv⟩
    · refine (ok b u q).stay (fun c v hc r=>k c v ?_ r) (fun c r=>by rw [au (nown c b r)]; exact r) fun c xs r=>by rw [au (ntup c xs r)]; exact r
      rcases hc with rfl | hc
      · exact hbe
      · rintro rfl
        rcases he with z | z
        · exact nown c b hc z
        · rw [hc] at z; cases z; exact hb rfl
end
structure Un (fs ex:List Addr) (H H':Hp) (h h':Heap):Prop where
  keep:∀ b o,h.get? b=some o→H b=none→b∉fs→b∉ex→h'.get? b=some o
  slot:∀ b o,h.get? b=some o→H b=none→b∈fs→b∉ex→∃ sl,h'.get? b=some { o with slots:=sl }
  free:∀ b o,h.get? b=some o→H b=none→b∉ex→H' b=none
  there:∀ b o,h.get? b=some o→b∉ex→∃ o',h'.get? b=some o'
  tups:∀ b xs,H b=some (.tup xs)→H' b=some (.tup xs)
  frzs:∀ b o u,H b=some (.frz o u)→H' b=some (.frz o u)
  tbls:∀ b ps,H b=some (.tbl ps)→∃ more,H' b=some (.tbl (ps++more))
section
variable {fs fs' ex ex':List Addr} {H H1 H2:Hp} {h h1 h2 h':Heap} {a x e:Addr} {o:HO}
theorem Un.any (u:Un fs ex H H1 h h1) {b:Addr} {ob:Obj} (q:h.get? b=some ob) (n:H b=none) (hx:b∉ex):∃ sl,h1.get? b=some { ob with slots:=sl }:=by
  by_cases hb:b∈fs
  · exact u.slot b ob q n hb hx
  · exact ⟨ob.slots,u.keep b ob q n hb hx⟩
theorem Un.kept (k:∀ b u,h.get? b=some u→h'.get? b=some u):Un fs ex H H h h' :=
  ⟨fun b ob q _ _ _=>k b ob q,fun b ob q _ _ _=>⟨ob.slots,k b ob q⟩,fun _ _ _ n _=>n,fun b ob q _=>⟨ob,k b ob q⟩,fun _ _ q=>q,fun _ _ _ q=>q,fun _ ps q=>⟨#[],by rw [q]; simp⟩⟩
theorem Un.refl:Un fs ex H H h h:=Un.kept fun _ _ q=>q
theorem Un.laid (k:∀ b u,h.get? b=some u→h'.get? b=some u) (hp:h.objs.size≤a) (hn:H a=none):Un fs ex H (upd H a o) h h' where
  keep:=fun b u q _ _ _=>k b u q
  slot:=fun b u q _ _ _=>⟨u.slots,k b u q⟩
  free:=fun b u q n _=>by rw [au (Nat.ne_of_lt (Nat.lt_of_lt_of_le (Heap.lt_size q) hp))]; exact n
  there:=fun b u q _=>⟨u,k b u q⟩
  tups:=fun b xs q=>by rw [au (aB q hn)]; exact q
  frzs:=fun b u xs q=>by rw [au (aB q hn)]; exact q
  tbls:=fun b ps q=>⟨#[],by rw [au (aB q hn),q]; simp⟩
theorem Un.write (mu:Tr (H x)) (he:e=x∨H e=some (.own x)) (k:∀ b u,b≠e→h.get? b=some u→h'.get? b=some u) (heo:∃ u,h'.get? e=some u):Un fs ex H (upd H x o) h h':=by
  have hx:∀ b,H b=none→b≠x:=fun b n z=>by subst z; rw [n] at mu; exact mu
  have hb:∀ b,H b=none→b≠e:=fun b n z=>by
    subst z
    rcases he with r | r
    · exact hx b n r
    · rw [n] at r; cases r
  have hm:∀ b u,H b=some u→¬ Tr (some u)→b≠x:=fun b u q nm z=>by subst z; rw [q] at mu; exact nm mu
  refine ⟨fun b u q n _ _=>k b u (hb b n) q,fun b u q n _ _=>⟨u.slots,k b u (hb b n) q⟩,fun b u q n _=>by rw [au (hx b n)]; exact n,fun b u q _=>?_,
    fun b xs q=>by rw [au (hm b _ q fun z=>z)]; exact q,fun b u xs q=>by rw [au (hm b _ q fun z=>z)]; exact q,fun b ps q=>⟨#[],by rw [au (hm b _ q fun z=>z),q]; simp⟩⟩
  by_cases hbe:b=e
  · subst hbe; exact heo
  · exact ⟨u,k b u hbe q⟩
end
def Tg (h:Heap) (H:Hp):List Addr:=(List.range h.objs.size).filter fun a=>(H a).isSome
def xP (h:Heap) (H:Hp):Heap:=PySem.W.hideAll h (Tg h H)
theorem Gy (h:Heap) (H:Hp):(xP h H).objs.size=h.objs.size:=PySem.W.hideAll_size _ _
theorem Kh {h:Heap} {H:Hp} {b:Addr} {o:Obj} (e:h.get? b=some o) (n:H b=none):(xP h H).get? b=some o :=
  PySem.W.hideAll_get _ e fun hm=>by
    have q:(H b).isSome=true:=(List.mem_filter.mp hm).2
    rw [n] at q; simp at q
theorem Nq {h:Heap} {H:Hp} {b:Addr} {o:Obj} (e:(xP h H).get? b=some o):h.get? b=some o∧H b=none:=by
  have e':h.get? b=some o:=PySem.W.of_hideAll (Tg h H) e
  refine ⟨e',?_⟩
  cases q:H b with
  | none=>rfl
  | some x =>
    have hm:b∈Tg h H:=List.mem_filter.mpr ⟨List.mem_range.mpr (Heap.lt_size e'),by simp [q]⟩
    have z:(xP h H).get? b=none:=PySem.W.hideAll_none (Tg h H) hm
    rw [z] at e; cases e
end L2
namespace L2
open PySem PySem.Spec PyProof.Rows
structure Mod (K:PySem.W.Frag) (mg:Str→Option Value) (base:Heap):Prop where
  kin:K.In base
  glob:base.Ns mainGlobals mg
  blt:∃ mb,base.Ns builtinsNs mb∧∀ x:Str,x ≠ "__name__"→mb x=bootBuiltins x
  nolimit:base.NoLimit
structure Cx where
  prog:Program
  w:World
  K:PySem.W.Frag
  mg:Str→Option Value
  base:Heap
  A:Around
  N:List Str
  s_0:Shared
  H_0:Hp
  env:Env
  outer:List Env
  stack:List Env
  ex:List Addr
  fn:Str→Bool
  calm:Bool
  pn:List (Addr×Obj)
  xe:Value→Shared→Prop
def frs (l:List Env):List Addr:=l.filterMap (·.frame)
abbrev Cx.fs (X:Cx):List Addr:=frs X.outer
def RL (sc:Scope) (x:Str):Prop:=sc.names.lookup x=some .local∨sc.names.lookup x=some .cell∨sc.names.lookup x=some .free
def Loc (sc:Scope) (x:Str):Prop:=sc.names.lookup x=some .local∨sc.names.lookup x=some .cell
def Look (env:Env) (h:Heap) (m:Str→Option Value) (x:Str) (u:Value):Prop :=
  (env.kindOf x=some .local∧m x=some u)∨((env.kindOf x=some .cell∨env.kindOf x=some .free)∧∃ c,env.cells.lookup x=some c∧h.IsCell c (some u))
structure Cx.Ok (X:Cx):Prop where
  mod:Mod X.K X.mg X.base
  kind:X.env.scope.kind=.function
  glob:X.env.globals=mainGlobals
  blt:X.env.builtins=builtinsNs
  above:X.s_0.heap.objs.size≤X.env.locals
  inj:∀ x y c,X.env.cells.lookup x=some c→X.env.cells.lookup y=some c→x=y
  has:∀ x,(X.env.kindOf x=some .cell∨X.env.kindOf x=some .free)→∃ c,X.env.cells.lookup x=some c
  cab:∀ x c,X.fn x=true→X.env.cells.lookup x=some c→X.s_0.heap.objs.size≤c
  hd:X.calm=true→X.A.handled=none
  frames:X.A.frames=some X.stack
  stk:X.stack=X.outer∨(X.stack=X.env :: X.outer∧X.env.frame=some X.env.locals)
  exf:∀ b∈X.ex,b≠X.env.locals∧∀ x c,X.env.cells.lookup x=some c→c≠b
  bs:∀ b o,X.base.get? b=some o→X.s_0.heap.get? b=some o∧X.H_0 b=none
  bsz:X.base.objs.size≤X.s_0.heap.objs.size
  noex:∀ b o,X.base.get? b=some o→b∉X.ex
  exfs:∀ b∈X.ex,b∉X.fs
  oR:X.s_0.heap.FunFrames X.base X.outer
  frf:∀ b∈X.fs,X.H_0 b=none
structure Inv (X:Cx) (pins:List (Addr×Obj)) (σ:List (Option V)) (H:Hp) (s:Shared):Prop where
  ok:X.Ok
  os:s.os=X.s_0.os
  bare:AllBare s.gens
  base:Un X.fs X.ex X.H_0 H X.s_0.heap s.heap
  loc:∃ m,s.heap.Ns X.env.locals m∧∀ (i:Nat) (x:Str) (v:V),X.N[i]?=some x→σ[i]?=some (some v)→RL X.env.scope x→∃ u,RelV v u∧Look X.env s.heap m x u
  cell:∀ x c,X.env.cells.lookup x=some c→∃ v,s.heap.IsCell c v
  free:H X.env.locals=none
  freeC:∀ x c,X.env.cells.lookup x=some c→H c=none
  pin:∀ p∈X.pn++pins,s.heap.get? p.1=some p.2∧H p.1=none∧p.1≠X.env.locals∧p.1∉X.fs∧∀ v,p.2.data≠.cell v
  hok:lN X.prog X.w H s.heap
  len:σ.length=X.N.length
section
variable {X:Cx} {pins:List (Addr×Obj)} {σ:List (Option V)} {H H':Hp} {s:Shared} {h':Heap}
theorem Cx.Ok.Ul (ok:X.Ok) {b:Addr} {o:Obj} (e:X.base.get? b=some o):b∉X.fs:=fun hb=>by
  have:=(ok.oR.mem hb).1
  rw [e] at this; cases this
theorem Inv.bs (I:Inv X pins σ H s):∀ b o,X.base.get? b=some o→s.heap.get? b=some o∧H b=none:=fun b o e =>
  ⟨I.base.keep b o (I.ok.bs b o e).1 (I.ok.bs b o e).2 (I.ok.Ul e) (I.ok.noex b o e),I.base.free b o (I.ok.bs b o e).1 (I.ok.bs b o e).2 (I.ok.noex b o e)⟩
theorem Inv.bk (I:Inv X pins σ H s):∀ b o,X.base.get? b=some o→s.heap.get? b=some o:=fun b o e=>(I.bs b o e).1
theorem Inv.mod (I:Inv X pins σ H s):Mod X.K X.mg X.base:=I.ok.mod
theorem Inv.mD (I:Inv X pins σ H s):X.K.In s.heap:=I.ok.mod.kin.keeps I.bk
theorem Inv.fr (I:Inv X pins σ H s):∃ m,Fr X.base X.env.locals s.heap m :=
  let ⟨m,hn,_⟩:=I.loc
  ⟨m,hn,I.bk,Nat.le_trans I.ok.bsz I.ok.above⟩
theorem Inv.lt (I:Inv X pins σ H s):X.env.locals < s.heap.objs.size:=let ⟨_,hn,_⟩:=I.loc; hn.lt
theorem Inv.sz (I:Inv X pins σ H s):X.s_0.heap.objs.size≤s.heap.objs.size:=Nat.le_trans I.ok.above (Nat.le_of_lt I.lt)
theorem Inv.Uk (I:Inv X pins σ H s) {a:Addr} (h:s.heap.objs.size≤a):a∉X.fs:=fun hb=>by
  obtain ⟨_,o,ho,_⟩:=I.ok.oR.mem hb
  exact absurd (Nat.lt_of_lt_of_le (Heap.lt_size ho) (Nat.le_trans I.sz h)) (Nat.lt_irrefl _)
theorem Inv.Pz (I:Inv X pins σ H s):∀ x c,X.env.cells.lookup x=some c→c≠X.env.locals:=fun x c e z=>by
  obtain ⟨v,o,ho,hd⟩:=I.cell x c e
  obtain ⟨m,⟨o',es,ep,ho',hd',_⟩,_⟩:=I.loc
  rw [z,ho'] at ho; cases ho; rw [hd'] at hd; cases hd
theorem Inv.oR (I:Inv X pins σ H s):s.heap.FunFrames X.base X.outer:=by
  have all:∀ (l:List Env),(∀ b∈frs l,b∈X.fs)→X.s_0.heap.FunFrames X.base l→s.heap.FunFrames X.base l:=by
    intro l
    induction l with
    | nil=>intro _ _; trivial
    | cons env r ih =>
      intro hs hl
      obtain ⟨hk,⟨L,o,hf,hn,ho,hd⟩,hr⟩:=hl
      have hL:L∈X.fs:=hs L (by unfold frs; rw [List.filterMap_cons,hf]; exact List.mem_cons_self)
      obtain ⟨sl,e⟩:=I.base.slot L o ho (I.ok.frf L hL) hL fun z=>I.ok.exfs L z hL
      exact ⟨hk,⟨L,_,hf,hn,e,hd⟩,ih (fun b hb=>hs b (by unfold frs; rw [List.filterMap_cons,hf]; exact List.mem_cons_of_mem _ hb)) hr⟩
  exact all X.outer (fun _ hb=>hb) I.ok.oR
theorem Inv.stack (I:Inv X pins σ H s):s.heap.FunFrames X.base X.stack:=by
  rcases I.ok.stk with e | ⟨e,hf⟩
  · rw [e]; exact I.oR
  · rw [e]
    obtain ⟨m,hn,_⟩:=I.loc
    refine .cons (by rw [I.ok.kind]; decide) hf hn ?_ I.oR
    exact Heap.get?_none_of_le (Nat.le_trans I.ok.bsz I.ok.above)
theorem Inv.Aj (I:Inv X pins σ H s):∀ b∈frs X.stack,b∈X.env.locals :: X.fs:=fun b hb=>by
  rcases I.ok.stk with e | ⟨e,hf⟩
  · rw [e] at hb; exact List.mem_cons_of_mem _ hb
  · rw [e] at hb
    unfold frs at hb
    rw [List.filterMap_cons,hf] at hb
    exact hb
theorem Inv.ni (I:Inv X pins σ H s):∀ b∈frs X.stack,H b=none:=fun b hb=>by
  rcases List.mem_cons.mp (I.Aj b hb) with e | hb
  · rw [e]; exact I.free
  · obtain ⟨_,o,ho,_⟩:=I.ok.oR.mem hb
    exact I.base.free b o ho (I.ok.frf b hb) fun z=>I.ok.exfs b z hb
theorem Inv.step {g':Array GenState} {t':Nat} {d':Drawn} {ch:List Addr} (I:Inv X pins σ H s)
    (hch:∀ b∈ch,(b∈X.ex∨X.s_0.heap.objs.size≤b)∧b≠X.env.locals∧(∀ x c,X.env.cells.lookup x=some c→c≠b)∧∀ p∈X.pn++pins,p.1≠b)
    (keep:∀ b o,b≠X.env.locals→b∉X.fs→b∉ch→s.heap.get? b=some o→H b=none→h'.get? b=some o)
    (slot:∀ b o,b≠X.env.locals→b∈X.fs→b∉ch→s.heap.get? b=some o→H b=none→∃ sl,h'.get? b=some { o with slots:=sl }) (free:∀ b o,b∉ch→s.heap.get? b=some o→H b=none→H' b=none)
    (there:∀ b o,b∉ch→s.heap.get? b=some o→∃ o',h'.get? b=some o')
    (tups:∀ b xs,H b=some (.tup xs)→H' b=some (.tup xs)) (frzs:∀ b o u,H b=some (.frz o u)→H' b=some (.frz o u)) (tbls:∀ b ps,H b=some (.tbl ps)→∃ more,H' b=some (.tbl (ps++more)))
    (ns:∀ m,s.heap.Ns X.env.locals m→h'.Ns X.env.locals m) (hok:lN X.prog X.w H' h') (hg:AllBare g') :
    Inv X pins σ H' { s with heap:=h',gens:=g',drawn:=d',toks:=t' }:=by
  have neL:∀ b o,X.s_0.heap.get? b=some o→b≠X.env.locals:=fun b o e=>Nat.ne_of_lt (Nat.lt_of_lt_of_le (Heap.lt_size e) I.ok.above)
  have neC:∀ b o,X.s_0.heap.get? b=some o→b∉X.ex→b∉ch:=fun b o e hx hb=>by
    rcases (hch b hb).1 with z | z
    · exact hx z
    · exact absurd (Nat.lt_of_lt_of_le (Heap.lt_size e) z) (Nat.lt_irrefl _)
  have cellK:∀ x c,X.env.cells.lookup x=some c→∀ v,s.heap.IsCell c v→h'.IsCell c v:=fun x c e v ⟨o,ho,hd⟩=>by
    have nch:c∉ch:=fun z=>(hch c z).2.2.1 x c e rfl
    by_cases hc:c∈X.fs
    · obtain ⟨sl,q⟩:=slot c o (I.Pz x c e) hc nch ho (I.freeC x c e)
      exact ⟨_,q,hd⟩
    · exact ⟨o,keep c o (I.Pz x c e) hc nch ho (I.freeC x c e),hd⟩
  refine ⟨I.ok,I.os,hg,⟨fun b o e n hb hx=>?_,fun b o e n hb hx=>?_,fun b o e n hx=>?_,fun b o e hx=>?_,fun b xs e=>tups b xs (I.base.tups b xs e),fun b o xs e=>frzs b o xs (I.base.frzs b o xs e),fun b ps e=>?_⟩,?_,fun x c e=>?_,?_,fun x c e=>?_,fun p hp=>?_,hok,I.len⟩
  · exact keep b o (neL b o e) hb (neC b o e hx) (I.base.keep b o e n hb hx) (I.base.free b o e n hx)
  · obtain ⟨sl,e1⟩:=I.base.slot b o e n hb hx
    obtain ⟨sl',e2⟩:=slot b _ (neL b o e) hb (neC b o e hx) e1 (I.base.free b o e n hx)
    exact ⟨sl',e2⟩
  · obtain ⟨o',e1⟩:=I.base.there b o e hx
    exact free b o' (neC b o e hx) e1 (I.base.free b o e n hx)
  · obtain ⟨o',e1⟩:=I.base.there b o e hx
    exact there b o' (neC b o e hx) e1
  · obtain ⟨m1,e1⟩:=I.base.tbls b ps e
    obtain ⟨m2,e2⟩:=tbls b _ e1
    exact ⟨m1++m2,by rw [e2,Array.append_assoc]⟩
  · obtain ⟨m,hn,hl⟩:=I.loc
    refine ⟨m,ns m hn,fun i x v e1 e2 e3=>?_⟩
    obtain ⟨u,r,l⟩:=hl i x v e1 e2 e3
    refine ⟨u,r,?_⟩
    rcases l with l | ⟨k,c,e,z⟩
    · exact .inl l
    · exact .inr ⟨k,c,e,cellK x c e _ z⟩
  · obtain ⟨v,z⟩:=I.cell x c e
    exact ⟨v,cellK x c e v z⟩
  · obtain ⟨m,⟨o,_,_,ho,_⟩,_⟩:=I.loc
    exact free _ o (fun z=>(hch _ z).2.1 rfl) ho I.free
  · obtain ⟨v,o,ho,hd⟩:=I.cell x c e
    exact free c o (fun z=>(hch c z).2.2.1 x c e rfl) ho (I.freeC x c e)
  · obtain ⟨e,n,ne,nf,d⟩:=I.pin p hp
    have nch:p.1∉ch:=fun z=>(hch p.1 z).2.2.2 p hp rfl
    exact ⟨keep p.1 p.2 ne nf nch e n,free p.1 p.2 nch e n,ne,nf,d⟩
theorem Inv.un {t':Nat} (I:Inv X pins σ H s) (u:Un X.fs [] H H' s.heap h') (hok:lN X.prog X.w H' h'):Inv X pins σ H' { s with heap:=h',toks:=t' }:=by
  obtain ⟨m,⟨o,es,ep,ho,r⟩,_⟩:=id I.loc
  obtain ⟨sl,hL⟩:=u.any ho I.free (by simp)
  exact I.step (g':=s.gens) (d':=s.drawn) (ch:=[]) (fun _ z=>nomatch z) (fun b o _ hb _ e n=>u.keep b o e n hb (by simp)) (fun b o _ hb _ e n=>u.slot b o e n hb (by simp)) (fun b o _ e n=>u.free b o e n (by simp)) (fun b o _ e=>u.there b o e (by simp)) u.tups u.frzs u.tbls (fun m' hm=>by
    obtain ⟨o',es',ep',ho',r'⟩:=hm
    rw [ho] at ho'; cases ho'
    exact ⟨_,es',ep',hL,r'⟩) hok I.bare
theorem Inv.call {g':Array GenState} {t':Nat} {d':Drawn} {ch:List Addr} (I:Inv X pins σ H s) (u:Un (frs X.stack) ch H H' s.heap h') (hok:lN X.prog X.w H' h') (hg:AllBare g')
    (hch:∀ b∈ch,(b∈X.ex∨X.s_0.heap.objs.size≤b)∧b≠X.env.locals∧(∀ x c,X.env.cells.lookup x=some c→c≠b)∧∀ p∈X.pn++pins,p.1≠b) :
    Inv X pins σ H' { s with heap:=h',gens:=g',drawn:=d',toks:=t' }:=by
  obtain ⟨m,⟨o,es,ep,ho,r⟩,_⟩:=id I.loc
  obtain ⟨sl,hL⟩:=u.any ho I.free fun z=>(hch _ z).2.1 rfl
  exact I.step (ch:=ch) hch (fun b o hL hb hc e n=>u.keep b o e n (fun z=>(List.mem_cons.mp (I.Aj b z)).elim hL hb) hc) (fun b o _ _ hc e n=>u.any e n hc) (fun b o hc e n=>u.free b o e n hc) (fun b o hc e=>u.there b o e hc) u.tups u.frzs u.tbls (fun m' hm=>by
    obtain ⟨o',es',ep',ho',r'⟩:=hm
    rw [ho] at ho'; cases ho'
    exact ⟨_,es',ep',hL,r'⟩) hok hg
theorem Inv.turned {t':Nat} {it:Addr} (I:Inv X pins σ H s) (k:∀ b o,b≠it→s.heap.get? b=some o→h'.get? b=some o) (hn:H it=none) (hL:it≠X.env.locals)
    (h1:it∈X.ex∨X.s_0.heap.objs.size≤it) (h2:∀ x c,X.env.cells.lookup x=some c→c≠it) (h3:∀ p∈X.pn++pins,p.1≠it):Inv X pins σ H { s with heap:=h',toks:=t' }:=by
  have nit:∀ b u,H b=some u→b≠it:=fun b u e z=>by rw [z,hn] at e; cases e
  refine I.step (g':=s.gens) (d':=s.drawn) (ch:=[it]) (fun b hb=>?_) (fun b o _ _ hc e _=>k b o (fun z=>hc (by simp [z])) e) (fun b o _ _ hc e _=>⟨o.slots,k b o (fun z=>hc (by simp [z])) e⟩) (fun _ _ _ _ n=>n)
    (fun b o hc e=>⟨o,k b o (fun z=>hc (by simp [z])) e⟩) (fun _ _ e=>e) (fun _ _ _ e=>e) (fun b ps e=>⟨#[],by rw [e]; simp⟩) (fun m hm=>?_) (fun b u e=>?_) I.bare
  · have e:b=it:=by simpa using hb
    subst e
    exact ⟨h1,hL,h2,h3⟩
  · obtain ⟨o,es,ep,ho,r⟩:=hm
    exact ⟨o,es,ep,k _ o (Ne.symm hL) ho,r⟩
  · refine (I.hok b u e).stay (fun c v hc q=>k c v ?_ q) (fun _ q=>q) fun _ _ q=>q
    rcases hc with z | z
    · rw [z]; exact nit b u e
    · exact nit c _ z
theorem Inv.tok (I:Inv X pins σ H s) (t:Nat):Inv X pins σ H { s with toks:=t }:=I.un (h':=s.heap) (t':=t) Un.refl I.hok
theorem Inv.kept {t':Nat} (I:Inv X pins σ H s) (k:∀ b u,s.heap.get? b=some u→h'.get? b=some u):Inv X pins σ H { s with heap:=h',toks:=t' }:=I.un (Un.kept k) (I.hok.kept k)
theorem Inv.laid {a:Addr} {o:HO} {t':Nat} (I:Inv X pins σ H s) (k:∀ b u,s.heap.get? b=some u→h'.get? b=some u) (hp:s.heap.objs.size≤a) (new:cX X.prog X.w (upd H a o) h' a o) :
    Inv X pins σ (upd H a o) { s with heap:=h',toks:=t' }:=I.un (Un.laid k hp (I.hok.fresh hp)) (I.hok.laid k hp new)
theorem Inv.write {x e:Addr} {o:HO} {t':Nat} (I:Inv X pins σ H s) (mu:Tr (H x)) (he:e=x∨H e=some (.own x)) (k:∀ b u,b≠e→s.heap.get? b=some u→h'.get? b=some u) (heo:∃ u,h'.get? e=some u)
    (new:cX X.prog X.w (upd H x o) h' x o):Inv X pins σ (upd H x o) { s with heap:=h',toks:=t' }:=I.un (Un.write mu he k heo) (I.hok.write mu he k heo new)
theorem Inv.weak {σ':List (Option V)} (I:Inv X pins σ H s) (hl:σ'.length=σ.length) (w:∀ (i:Nat) v,σ'[i]?=some (some v)→σ[i]?=some (some v)):Inv X pins σ' H s :=
  ⟨I.ok,I.os,I.bare,I.base,let ⟨m,hn,hl'⟩:=I.loc; ⟨m,hn,fun i x v e1 e2 e3=>hl' i x v e1 (w i v e2) e3⟩,I.cell,I.free,I.freeC,I.pin,I.hok,hl.trans I.len⟩
theorem Inv.Df {pins':List (Addr×Obj)} (I:Inv X pins σ H s) (h:∀ p∈pins',s.heap.get? p.1=some p.2∧H p.1=none∧p.1≠X.env.locals∧p.1∉X.fs∧∀ v,p.2.data≠.cell v):Inv X pins' σ H s :=
  ⟨I.ok,I.os,I.bare,I.base,I.loc,I.cell,I.free,I.freeC,fun p hp=>(List.mem_append.mp hp).elim (fun z=>I.pin p (List.mem_append_left _ z)) (h p),I.hok,I.len⟩
theorem uw {N:List Str} (hN:N.Nodup) {i j:Nat} {x:Str} (a:N[i]?=some x) (b:N[j]?=some x):i=j:=by
  obtain ⟨h1,e1⟩:=List.getElem?_eq_some_iff.mp a
  obtain ⟨h2,e2⟩:=List.getElem?_eq_some_iff.mp b
  exact (List.getElem_inj hN).mp (e1.trans e2.symm)
theorem vN {M:Model} {A:Around} {E:Value→Shared→Prop} {i:Nat} {x:Str} {v:V} {u:Value} {Q:Unit→Shared→Prop} (I:Inv X pins σ H s) (hN:X.N.Nodup) (hi:X.N[i]?=some x) (hx:Loc X.env.scope x) (r:RelV v u)
    (h:∀ s',Inv X pins (σ.set i (some v)) H s'→(∃ a,Heap.SameBut a s.heap s'.heap∧(a=X.env.locals∨X.env.cells.lookup x=some a))→Q () s') (hf:X.fn x=true∨X.env.scope.names.lookup x=some .local:=by first | exact .inl rfl | exact .inr rfl | assumption):wpAny M A (storeName X.env x u) Q E s:=by
  obtain ⟨m,hn,hl⟩:=id I.loc
  have hcls:(X.env.scope.kind==.class || (X.env.scope.kind==.module && X.env.locals != X.env.globals))=false:=by rw [I.ok.kind]; rfl
  have hiσ:i < σ.length:=by rw [I.len]; exact (List.getElem?_eq_some_iff.mp hi).1
  have Pz:=I.Pz
  have tracked:∀ {a:Addr} {h':Heap},(∃ o,s.heap.get? a=some o∧H a=none)→Heap.SameBut a s.heap h'→lN X.prog X.w H h':=fun {a h'} ha hs b ob e=>by
    obtain ⟨_,_,hfree⟩:=ha
    refine (I.hok b ob e).stay (fun c w' hc q=>(hs.2 c ?_).trans q) (fun _ q=>q) fun _ _ q=>q
    rintro rfl
    rcases hc with rfl | hc
    · rw [hfree] at e; cases e
    · rw [hfree] at hc; cases hc
  rcases hx with hk | hk
  · refine wpAny_storeName_local hk hn (fun h' hn' hs=>?_) hcls
    obtain ⟨oL,_,_,hoL,_⟩:=id hn
    refine h _ ⟨I.ok,I.os,I.bare,⟨fun b o e n hb hx=>?_,fun b o e n hb hx=>?_,I.base.free,fun b o e hx=>?_,I.base.tups,I.base.frzs,I.base.tbls⟩,⟨_,hn',fun j y v' e1 e2 e3=>?_⟩,fun y c e=>?_,I.free,I.freeC,fun p hp=>?_,tracked ⟨oL,hoL,I.free⟩ hs,by simpa using I.len⟩ ⟨_,hs,.inl rfl⟩
    · exact (hs.2 b (Nat.ne_of_lt (Nat.lt_of_lt_of_le (Heap.lt_size e) I.ok.above))).trans (I.base.keep b o e n hb hx)
    · obtain ⟨sl,e1⟩:=I.base.slot b o e n hb hx
      exact ⟨sl,(hs.2 b (Nat.ne_of_lt (Nat.lt_of_lt_of_le (Heap.lt_size e) I.ok.above))).trans e1⟩
    · obtain ⟨o',e1⟩:=I.base.there b o e hx
      exact ⟨o',(hs.2 b (Nat.ne_of_lt (Nat.lt_of_lt_of_le (Heap.lt_size e) I.ok.above))).trans e1⟩
    · by_cases hj:j=i
      · subst hj
        rw [hi] at e1; cases e1
        rw [List.getElem?_set_self hiσ] at e2
        cases e2
        exact ⟨u,r,.inl ⟨hk,by simp⟩⟩
      · rw [List.getElem?_set_ne (Ne.symm hj)] at e2
        obtain ⟨u',r',q⟩:=hl j y v' e1 e2 e3
        refine ⟨u',r',?_⟩
        rcases q with ⟨k,e⟩ | ⟨k,c,e,z⟩
        · refine .inl ⟨k,?_⟩
          have:y≠x:=fun e=>hj (uw hN e1 (e ▸ hi))
          simp [this,e]
        · exact .inr ⟨k,c,e,z.sameBut hs (Pz y c e)⟩
    · obtain ⟨w',z⟩:=I.cell y c e
      exact ⟨w',z.sameBut hs (Pz y c e)⟩
    · obtain ⟨e,n,ne,nf,d⟩:=I.pin p hp
      exact ⟨(hs.2 p.1 ne).trans e,n,ne,nf,d⟩
  · have hfn:X.fn x=true:=by
      rcases hf with z | z
      · exact z
      · rw [z] at hk; cases hk
    obtain ⟨c,hc⟩:=I.ok.has x (.inl hk)
    obtain ⟨w',z⟩:=I.cell x c hc
    refine wpAny_storeName_cell I.ok.kind hk hc z (fun h' hc' hs=>?_)
    obtain ⟨oc,hoc,hocd⟩:=id z
    refine h { s with heap:=h' } ⟨I.ok,I.os,I.bare,⟨fun b o e n hb hx=>?_,fun b o e n hb hx=>?_,I.base.free,fun b o e hx=>?_,I.base.tups,I.base.frzs,I.base.tbls⟩,⟨m,hn.sameBut hs (Ne.symm (Pz x c hc)),fun j y v' e1 e2 e3=>?_⟩,fun y c' e=>?_,I.free,I.freeC,fun p hp=>?_,tracked ⟨oc,hoc,I.freeC x c hc⟩ hs,by simpa using I.len⟩ ⟨c,hs,.inr hc⟩
    · exact (hs.2 b (Nat.ne_of_lt (Nat.lt_of_lt_of_le (Heap.lt_size e) (I.ok.cab x c hfn hc)))).trans (I.base.keep b o e n hb hx)
    · obtain ⟨sl,e1⟩:=I.base.slot b o e n hb hx
      exact ⟨sl,(hs.2 b (Nat.ne_of_lt (Nat.lt_of_lt_of_le (Heap.lt_size e) (I.ok.cab x c hfn hc)))).trans e1⟩
    · obtain ⟨o',e1⟩:=I.base.there b o e hx
      exact ⟨o',(hs.2 b (Nat.ne_of_lt (Nat.lt_of_lt_of_le (Heap.lt_size e) (I.ok.cab x c hfn hc)))).trans e1⟩
    · by_cases hj:j=i
      · subst hj
        rw [hi] at e1; cases e1
        rw [List.getElem?_set_self hiσ] at e2
        cases e2
        exact ⟨u,r,.inr ⟨.inl hk,c,hc,hc'⟩⟩
      · rw [List.getElem?_set_ne (Ne.symm hj)] at e2
        obtain ⟨u',r',q⟩:=hl j y v' e1 e2 e3
        refine ⟨u',r',?_⟩
        rcases q with q | ⟨k,c',e,z'⟩
        · exact .inl q
        · refine .inr ⟨k,c',e,z'.sameBut hs ?_⟩
          rintro rfl
          exact hj (uw hN e1 (I.ok.inj _ _ _ e hc ▸ hi))
    · by_cases hcc:c'=c
      · subst hcc; exact ⟨_,hc'⟩
      · obtain ⟨w2,z2⟩:=I.cell y c' e
        exact ⟨w2,z2.sameBut hs hcc⟩
    · obtain ⟨e,n,ne,nf,d⟩:=I.pin p hp
      refine ⟨(hs.2 p.1 ?_).trans e,n,ne,nf,d⟩
      intro q
      rw [q,hoc] at e
      have q':oc=p.2:=Option.some.inj e
      exact d w' (by rw [← q']; exact hocd)
theorem m_ {M:Model} {A:Around} {E:Value→Shared→Prop} {i:Nat} {x:Str} {v:V} {u:Value} {Q:Unit→Shared→Prop} (I:Inv X pins σ H s) (hN:X.N.Nodup) (hi:X.N[i]?=some x) (hx:Loc X.env.scope x) (r:RelV v u)
    (h:∀ s',Inv X pins (σ.set i (some v)) H s'→Q () s') (hf:X.fn x=true∨X.env.scope.names.lookup x=some .local:=by first | exact .inl rfl | exact .inr rfl | assumption):wpAny M A (storeName X.env x u) Q E s :=
  vN I hN hi hx r (fun s' I' _=>h s' I') hf
theorem Inv.call' {s':Shared} {ch:List Addr} (I:Inv X pins σ H s) (ho:s'.os=s.os) (u:Un (frs X.stack) ch H H' s.heap s'.heap) (hok:lN X.prog X.w H' s'.heap) (hg:AllBare s'.gens)
    (hch:∀ b∈ch,(b∈X.ex∨X.s_0.heap.objs.size≤b)∧b≠X.env.locals∧(∀ x c,X.env.cells.lookup x=some c→c≠b)∧∀ p∈X.pn++pins,p.1≠b):Inv X pins σ H' s':=by
  obtain ⟨h',g',d',t',o'⟩:=s'
  have e:o'=s.os:=ho
  subst e
  exact I.call (g':=g') (t':=t') (d':=d') u hok hg hch
end
abbrev XK:=Value→Option Addr→Hp→Prop
abbrev St:=List (Option V)
abbrev VK:=V→Hp→Prop
abbrev TE:=St→Hp→VK→Prop
abbrev TT:=St→Hp→(Bool→Hp→Prop)→Prop
abbrev TA:=St→Hp→(List V→Hp→Prop)→Prop
structure Ends where
  nx:St→Hp→Prop
  rt:VK
  bk:St→Hp→Prop:=fun _ _=>False
  ct:St→Hp→Prop:=fun _ _=>False
abbrev TS:=Ends→St→Hp→Prop
def EP (X:Cx) (pins:List (Addr×Obj)) (σ:St) (Q:VK) (u:Value) (s':Shared):Prop:=∃ v H',Inv X pins σ H' s'∧RelV v u∧Q v H'
def TP (X:Cx) (pins:List (Addr×Obj)) (σ:St) (Q:Bool→Hp→Prop) (b:Bool) (s':Shared):Prop:=∃ H',Inv X pins σ H' s'∧Q b H'
def AP (X:Cx) (pins:List (Addr×Obj)) (σ:St) (Q:List V→Hp→Prop) (us:List Value) (s':Shared):Prop:=∃ vs H',Inv X pins σ H' s'∧Vals vs us∧Q vs H'
def SP (X:Cx) (pins:List (Addr×Obj)) (D:Ends) (f:Flow) (s':Shared):Prop :=
  match f with
  | .next=>∃ σ' H',Inv X pins σ' H' s'∧D.nx σ' H'
  | .brk=>∃ σ' H',Inv X pins σ' H' s'∧D.bk σ' H'
  | .cont=>∃ σ' H',Inv X pins σ' H' s'∧D.ct σ' H'
  | .ret u=>∃ v σ' H',Inv X pins σ' H' s'∧RelV v u∧D.rt v H'
def PE (X:Cx) (e:Expr) (t:TE):Prop :=
  ∀ (pins:List (Addr×Obj)) (s:Shared) (σ:St) (H:Hp) (Q:VK),Inv X pins σ H s→t σ H Q→wpAny (model X.prog X.w) X.A (eval e X.env) (EP X pins σ Q) X.xe s
def PT (X:Cx) (e:Expr) (t:TT):Prop :=
  ∀ (pins:List (Addr×Obj)) (s:Shared) (σ:St) (H:Hp) (Q:Bool→Hp→Prop),Inv X pins σ H s→t σ H Q→wpAny (model X.prog X.w) X.A (isTrue e X.env (eval e X.env)) (TP X pins σ Q) X.xe s
def PW (X:Cx) (e:Expr) (t:TT):Prop :=
  ∀ (whole:Sem Value) (pins:List (Addr×Obj)) (s:Shared) (σ:St) (H:Hp) (Q:Bool→Hp→Prop),Inv X pins σ H s→t σ H Q→wpAny (model X.prog X.w) X.A (isTrue e X.env whole) (TP X pins σ Q) X.xe s
theorem PW.pt {X:Cx} {e:Expr} {t:TT} (h:PW X e t):PT X e t:=h _
def PA (X:Cx) (es:List Expr) (t:TA):Prop :=
  ∀ (pos:Pos) (pins:List (Addr×Obj)) (s:Shared) (σ:St) (H:Hp) (Q:List V→Hp→Prop),Inv X pins σ H s→t σ H Q→wpAny (model X.prog X.w) X.A (spliced (backTo pos (starEach es X.env))) (AP X pins σ Q) X.xe s
def PS (X:Cx) (st:Stmt) (t:TS):Prop :=
  ∀ (pins:List (Addr×Obj)) (s:Shared) (σ:St) (H:Hp) (D:Ends),Inv X pins σ H s→t D σ H→wpAny (model X.prog X.w) X.A (exec st X.env) (SP X pins D) X.xe s
def Hv (X:Cx) (st:List Stmt) (t:TS):Prop :=
  ∀ (pins:List (Addr×Obj)) (s:Shared) (σ:St) (H:Hp) (D:Ends),Inv X pins σ H s→t D σ H→wpAny (model X.prog X.w) X.A (execs st X.env) (SP X pins D) X.xe s
theorem cP {α:Type} {t:Sem α} {Q Q':α→Shared→Prop} {M:Model} {A:Around} {E:Value→Shared→Prop} {s:Shared} (h:wpAny M A t Q E s) (hQ:∀ a s,Q a s→Q' a s):wpAny M A t Q' E s:=wpAny_mono h hQ fun _ _ x=>x
end L2
namespace L2
open PySem PySem.Spec PyProof.Rows
section
variable {X:Cx}
def jE (i:Nat):TE:=fun σ H Q=>∃ v,σ[i]?=some (some v)∧Q v H
def tC (v:V):TE:=fun _ H Q=>Q v H
theorem Jz {i:Nat} {x:Str} {pos:Pos} (hN:X.N[i]?=some x) (hv:RL X.env.scope x) (hd:(x==("__debug__" : Str))=false:=by decide) (hcd:(x==("__classdict__" : Str))=false:=by decide):PE X (.Name x pos) (jE i):=by
  intro pins s σ H Q I h
  obtain ⟨v,e,h⟩:=h
  obtain ⟨m,hn,hl⟩:=I.loc
  obtain ⟨u,r,l⟩:=hl i x v hN e hv
  have fin:EP X pins σ Q u s:=⟨v,H,I,r,h⟩
  rcases l with ⟨hk,hm⟩ | ⟨hk,c,hc,hcell⟩
  · exact wpAny_Name (wpAny_loadName_local I.ok.kind hk hn hm fin) hd
  · rcases hk with hk | hk
    · exact wpAny_Name (wpAny_loadName_cell I.ok.kind hk hc hcell fin) hd
    · exact wpAny_Name (wpAny_loadName_free I.ok.kind hk hc hcell fin hcd) hd
theorem aA {i j pos}:PE X (.Constant (.int i) j pos) (tC (.int i)):=fun _ _ _ H _ I h=>wpAny_Constant_int ⟨.int i,H,I.tok _,⟨_,rfl⟩,h⟩
theorem Pj {b j pos}:PE X (.Constant (.bool b) j pos) (tC (.bl b)):=fun _ _ _ H _ I h=>Constant_bool ⟨.bl b,H,I,rfl,h⟩
theorem QF {j pos}:PE X (.Constant .none j pos) (tC .non):=fun _ _ _ H _ I h=>Constant_none ⟨.non,H,I,rfl,h⟩
theorem fY {x j pos}:PE X (.Constant (.str x) j pos) (tC (.str x)):=fun _ _ _ H _ I h=>Calls.Constant_str ⟨.str x,H,I.tok _,⟨_,rfl⟩,h⟩
def Gl (X:Cx) (x:Str):Prop:=X.env.kindOf x=some .globalImplicit
theorem jk {E:Value→Shared→Prop} {pins:List (Addr×Obj)} {s:Shared} {σ:St} {H:Hp} {x:Str} {u:Value} {pos:Pos} {Q:Value→Shared→Prop} (I:Inv X pins σ H s) (hg:Gl X x) (hm:X.mg x=some u) (h:Q u s)
    (hd:(x==("__debug__" : Str))=false:=by decide):wpAny (model X.prog X.w) X.A (eval (.Name x pos) X.env) Q E s :=
  Calls.Name_function_global I.ok.kind hg (Calls.loadGlobal_global (by rw [I.ok.glob]; exact I.mod.glob.keeps I.bk) hm h) hd
theorem qb {E:Value→Shared→Prop} {pins:List (Addr×Obj)} {s:Shared} {σ:St} {H:Hp} {x:Str} {u:Value} {pos:Pos} {Q:Value→Shared→Prop} (I:Inv X pins σ H s) (hg:Gl X x) (hm:X.mg x=none) (hv:bootBuiltins x=some u) (h:Q u s)
    (hn:x ≠ "__name__":=by decide) (hd:(x==("__debug__" : Str))=false:=by decide):wpAny (model X.prog X.w) X.A (eval (.Name x pos) X.env) Q E s:=by
  obtain ⟨mb,h1,h2⟩:=I.mod.blt
  exact Calls.Name_function_global I.ok.kind hg (Calls.loadGlobal_builtin (by rw [I.ok.glob]; exact I.mod.glob.keeps I.bk) hm (by rw [I.ok.blt]; exact h1.keeps I.bk) ((h2 x hn).trans hv) h) hd
theorem dD {x:Str} {v:V} {u:Value} {pos:Pos} (hg:Gl X x) (hm:X.mg x=some u) (r:RelV v u) (hd:(x==("__debug__" : Str))=false:=by decide):PE X (.Name x pos) (tC v) :=
  fun _ _ _ H _ I h=>jk I hg hm ⟨v,H,I,r,h⟩ hd
variable {a b:Expr} {ta tb:TE} {pos:Pos}
def PC (X:Cx) (op:CmpOp) (a b:Expr) (t:TE):Prop :=
  ∀ (pins:List (Addr×Obj)) (s:Shared) (σ:St) (H:Hp) (Q:VK),Inv X pins σ H s→t σ H Q →
    wpAny (model X.prog X.w) X.A (eval a X.env) (fun v s₁=>wpAny (model X.prog X.w) X.A (eval b X.env) (fun u s₂=>wpAny (model X.prog X.w) X.A (compareOp op v u) (EP X pins σ Q) X.xe s₂) X.xe s₁) X.xe s
theorem JZ (b:Expr) {op:CmpOp} (h:op≠.In) (h2:op≠.NotIn):behindInMarks op b=false:=by
  have e1:(op==CmpOp.In)=false:=by cases op <;> first | rfl | exact absurd rfl h
  have e2:(op==CmpOp.NotIn)=false:=by cases op <;> first | rfl | exact absurd rfl h2
  cases b <;> simp [behindInMarks,e1,e2]
def wJ (ta:TE):TE:=fun σ H Q=>ta σ H fun x H1=>Q (.bl (decide (x=.non))) H1
theorem RelV.JW {x:V} {v:Value} (r:RelV x v):(v==Value.none)=decide (x=.non):=by
  cases x with
  | non=>cases r; rfl
  | bl _=>cases r; rfl
  | int _=>obtain ⟨t,rfl⟩:=r; rfl
  | str _=>obtain ⟨t,rfl⟩:=r; rfl
  | byt _=>obtain ⟨t,rfl⟩:=r; rfl
  | flt _=>obtain ⟨t,rfl⟩:=r; rfl
  | ref _=>cases r; rfl
  | ty _=>cases r; rfl
theorem Be {j pos'} (ha:PE X a ta):PC X .Is a (.Constant .none j pos') (wJ ta):=by
  intro pins s σ H Q I h
  refine cP (ha pins s σ H _ I h) fun v s1 ⟨x,H1,I1,r1,q1⟩=>?_
  exact Constant_none (is_none_gen ⟨.bl _,H1,I1,by rw [r1.JW]; rfl,q1⟩)
def tB (t:TE):TT:=fun σ H Q=>t σ H fun x H1=>∃ c,x=.bl c∧Q c H1
theorem xm {op:CmpOp} {t:TE} (h:PC X op a b t) (h1:behindInMarks op b=false:=by first | exact JZ _ (by decide) (by decide) | rfl):PT X (.Compare a [op] [b] pos) (tB t):=by
  intro pins s σ H Q I hw
  refine wpAny_isTrue_Compare1 (cP (h pins s σ H _ I hw) fun v s1 h1=>cP h1 fun u s2 h2=>cP h2 fun c s3 ⟨x,H1,I1,r1,q1⟩=>?_) h1
  obtain ⟨d,rfl,q⟩:=q1
  cases r1
  exact wpAny_truthy_bool ⟨H1,I1,q⟩
theorem my {e:Expr} {t:TE} (h:PE X e t) (he:∀ whole,isTrue e X.env whole=(do let v ← whole; standAt e.pos; holding [v] (truthy v)):=by intro _; rfl):PT X e (tB t):=by
  intro pins s σ H Q I hw
  refine isTrue_plain (cP (h pins s σ H _ I hw) fun v s1 ⟨x,H1,I1,r1,q1⟩=>?_) (he _)
  obtain ⟨d,rfl,q⟩:=q1
  cases r1
  exact wpAny_truthy_bool ⟨H1,I1,q⟩
variable {tA tB':TT} {rest:List Expr}
def wL (t u:TT):TT:=fun σ H Q=>t σ H fun c H1=>if c=true then u σ H1 Q else Q false H1
def Lr (t u:TT):TT:=fun σ H Q=>t σ H fun c H1=>if c=true then Q true H1 else u σ H1 Q
def wI (t:TT):TT:=fun σ H Q=>t σ H fun c H1=>Q (!c) H1
theorem su (ha:PT X a tA):PW X (.BoolOp .And [a] pos) tA:=by
  intro wh pins s σ H Q I h
  refine isTrue_and (cP (ha pins s σ H Q I h) fun c s1 e=>?_)
  cases c with
  | true=>exact isTrue_and_nil e
  | false=>exact e
theorem pM (ha:PT X a tA):PW X (.BoolOp .Or [a] pos) tA:=by
  intro wh pins s σ H Q I h
  refine isTrue_or (cP (ha pins s σ H Q I h) fun c s1 e=>?_)
  cases c with
  | false=>exact isTrue_or_nil e
  | true=>exact e
theorem xj (ha:PT X a tA) (hb:PW X (.BoolOp .And (b :: rest) pos) tB'):PW X (.BoolOp .And (a :: b :: rest) pos) (wL tA tB'):=by
  intro wh pins s σ H Q I h
  refine isTrue_and (cP (ha pins s σ H _ I h) fun c s1 ⟨H1,I1,q1⟩=>?_)
  cases c with
  | true=>exact hb wh pins s1 σ H1 Q I1 q1
  | false=>exact ⟨H1,I1,q1⟩
theorem qQ (ha:PT X a tA) (hb:PW X (.BoolOp .Or (b :: rest) pos) tB'):PW X (.BoolOp .Or (a :: b :: rest) pos) (Lr tA tB'):=by
  intro wh pins s σ H Q I h
  refine isTrue_or (cP (ha pins s σ H _ I h) fun c s1 ⟨H1,I1,q1⟩=>?_)
  cases c with
  | true=>exact ⟨H1,I1,q1⟩
  | false=>exact hb wh pins s1 σ H1 Q I1 q1
theorem jh (ha:PT X a tA):PT X (.UnaryOp .Not a pos) (wI tA):=by
  intro pins s σ H Q I h
  exact isTrue_not (ha pins s σ H (fun c H1=>Q (!c) H1) I h)
def m9 (ta tb:TE):TE:=fun σ H Q=>ta σ H fun x H1=>∃ c,x=.bl c∧if c=true then tb σ H1 Q else Q (.bl false) H1
def wH (ta tb:TE):TE:=fun σ H Q=>ta σ H fun x H1=>∃ c,x=.bl c∧if c=true then Q (.bl true) H1 else tb σ H1 Q
def qK (ta:TE):TE:=fun σ H Q=>ta σ H fun x H1=>∃ c,x=.bl c∧Q (.bl (!c)) H1
theorem uo {op} {t:TE} (h:PE X a t):PE X (.BoolOp op [a] pos) t:=fun pins s σ H Q I hw=>BoolOp_one (h pins s σ H Q I hw)
theorem xx (ha:PE X a ta) (hb:PE X (.BoolOp .And (b :: rest) pos) tb):PE X (.BoolOp .And (a :: b :: rest) pos) (m9 ta tb):=by
  intro pins s σ H Q I h
  refine BoolOp_and (cP (ha pins s σ H _ I h) fun v s1 ⟨x,H1,I1,r1,q1⟩=>?_)
  obtain ⟨c,rfl,q1⟩:=q1
  cases r1
  refine wpAny_truthy_bool ?_
  cases c with
  | true=>exact hb pins s1 σ H1 Q I1 q1
  | false=>exact ⟨.bl false,H1,I1,rfl,q1⟩
theorem R6 (ha:PE X a ta) (hb:PE X (.BoolOp .Or (b :: rest) pos) tb):PE X (.BoolOp .Or (a :: b :: rest) pos) (wH ta tb):=by
  intro pins s σ H Q I h
  refine BoolOp_or (cP (ha pins s σ H _ I h) fun v s1 ⟨x,H1,I1,r1,q1⟩=>?_)
  obtain ⟨c,rfl,q1⟩:=q1
  cases r1
  refine wpAny_truthy_bool ?_
  cases c with
  | false=>exact hb pins s1 σ H1 Q I1 q1
  | true=>exact ⟨.bl true,H1,I1,rfl,q1⟩
def Lg (t:TT) (ta tb:TE):TE:=fun σ H Q=>t σ H fun c H1=>if c=true then ta σ H1 Q else tb σ H1 Q
theorem jX {c:Expr} (hc:PT X c tA) (ha:PE X a ta) (hb:PE X b tb):PE X (.IfExp c a b pos) (Lg tA ta tb):=by
  intro pins s σ H Q I h
  refine wpAny_IfExp (cP (hc pins s σ H _ I h) fun d s1 ⟨H1,I1,q1⟩=>?_)
  cases d with
  | true=>exact ha pins s1 σ H1 Q I1 q1
  | false=>exact hb pins s1 σ H1 Q I1 q1
end
end L2
namespace L2
open PySem PySem.Spec PyProof.Rows
def bG (K:PySem.W.Frag) (H:Hp) (a:Addr) (xs:List V):Prop :=
  Rd H a (.lst xs) ∨
    ∃ (o:Obj) (its:Array Value) (n:Nat),K.lookup a=some o∧o.cls=.type "list"∧o.dict=none∧o.data=.seq its n∧its.size≤sizeLine∧Vals xs its.toList
def dY (K:PySem.W.Frag) (H:Hp) (a:Addr) (xs:List V):Prop :=
  Rd H a (.tup xs) ∨
    ∃ (o:Obj) (its:Array Value) (n:Nat),K.lookup a=some o∧o.cls=.type "tuple"∧o.data=.seq its n∧its.size≤sizeLine∧Vals xs its.toList
def Uy:Value→Option V
  | .none=>some .non
  | .bool b=>some (.bl b)
  | .int i _=>some (.int i)
  | .str x _=>some (.str x)
  | .bytes b _=>some (.byt b)
  | .float b _=>some (.flt b)
  | .ref a=>some (.ref a)
  | .type n=>some (.ty n)
  | _=>none
theorem RelV.abs {x:V} {u:Value} (r:RelV x u):Uy u=some x:=by
  cases x with
  | non=>cases r; rfl
  | bl _=>cases r; rfl
  | int _=>obtain ⟨t,rfl⟩:=r; rfl
  | str _=>obtain ⟨t,rfl⟩:=r; rfl
  | byt _=>obtain ⟨t,rfl⟩:=r; rfl
  | flt _=>obtain ⟨t,rfl⟩:=r; rfl
  | ref _=>cases r; rfl
  | ty _=>cases r; rfl
theorem RelV.inj {x y:V} {u:Value} (r:RelV x u) (q:RelV y u):x=y:=Option.some.inj (r.abs.symm.trans q.abs)
theorem Vals.inj:∀ {xs ys:List V} {us:List Value},Vals xs us→Vals ys us→xs=ys
  | _,_,_,.nil,.nil=>rfl
  | _,_,_,.cons r t,.cons r' t'=>by rw [r.inj r',Vals.inj t t']
section
variable {X:Cx} {pins:List (Addr×Obj)} {σ:St} {H:Hp} {s:Shared} {a:Addr} {xs ys:List V}
theorem bG.of {K:PySem.W.Frag} (h:H a=some (.lst xs)):bG K H a xs:=.inl (.inl h)
theorem dY.of {K:PySem.W.Frag} (h:H a=some (.tup xs)):dY K H a xs:=.inl (.inl h)
theorem Inv.list (I:Inv X pins σ H s) (h:bG X.K H a xs):∃ its:List Value,Vals xs its∧PlainL s.heap a its.toArray∧xs.length≤sizeLine:=by
  rcases h with h | ⟨o,its,n,hk,hc,hd,hs,hz,r⟩
  · obtain ⟨z,its,n,r,e⟩:=h.ok I.hok
    exact ⟨its,r,⟨_,n,e,rfl,rfl,rfl⟩,z⟩
  · refine ⟨its.toList,r,⟨o,n,I.mD a o hk,hc,hd,by simpa using hs⟩,?_⟩
    have e:=r.length
    simp only [Array.length_toList] at e
    omega
theorem Inv.tuple (I:Inv X pins σ H s) (h:dY X.K H a xs):∃ its:List Value,Vals xs its∧IsTup s.heap a its.toArray∧xs.length≤sizeLine:=by
  rcases h with h | ⟨o,its,n,hk,hc,hs,hz,r⟩
  · obtain ⟨z,its,r,p⟩:=h.ok I.hok
    exact ⟨its,r,p,z⟩
  · refine ⟨its.toList,r,⟨o,I.mD a o hk,hc,n,by simpa using hs⟩,?_⟩
    have e:=r.length
    simp only [Array.length_toList] at e
    omega
theorem Inv.oJ (I:Inv X pins σ H s) (h:bG X.K H a xs) (h':bG X.K H a ys):xs=ys:=by
  obtain ⟨its,r,⟨o,n,e,_,_,d⟩,_⟩:=I.list h
  obtain ⟨its',r',⟨o',n',e',_,_,d'⟩,_⟩:=I.list h'
  rw [e] at e'; cases e'
  rw [d] at d'
  injection d' with d1 _
  have:its=its':=by simpa using congrArg Array.toList d1
  subst this
  exact r.inj r'
theorem Inv.El (I:Inv X pins σ H s) (h:dY X.K H a xs) (h':dY X.K H a ys):xs=ys:=by
  obtain ⟨its,r,⟨o,e,_,n,d⟩,_⟩:=I.tuple h
  obtain ⟨its',r',⟨o',e',_,n',d'⟩,_⟩:=I.tuple h'
  rw [e] at e'; cases e'
  rw [d] at d'
  injection d' with d1 _
  have:its=its':=by simpa using congrArg Array.toList d1
  subst this
  exact r.inj r'
end
section
variable {X:Cx} {pins:List (Addr×Obj)} {σ:St} {H:Hp} {s:Shared} {E:Value→Shared→Prop}
end
section
variable {X:Cx} {st:Stmt} {rest:List Stmt} {t u:TS} {e:Expr} {te:TE} {pos:Pos}
def mY:TS:=fun D σ H=>D.nx σ H
def wG (t u:TS):TS:=fun D σ H=>t { D with nx:=u D } σ H
theorem aH:Hv X [] mY:=fun _ _ σ H _ I h=>wpAny_execs_nil ⟨σ,H,I,h⟩
theorem aj (h1:PS X st t) (h2:Hv X rest u):Hv X (st :: rest) (wG t u):=by
  intro pins s σ H D I h
  refine wpAny_execs_cons (cP (h1 pins s σ H { D with nx:=u D } I h) fun f s1 q=>?_)
  cases f with
  | next =>
    obtain ⟨σ',H',I',q⟩:=q
    exact h2 pins s1 σ' H' D I' q
  | ret v=>exact q
  | brk=>exact q
  | cont=>exact q
theorem ao (h1:PS X st t):Hv X [st] t:=by
  intro pins s σ H D I h
  refine wpAny_execs_cons (cP (h1 pins s σ H D I h) fun f s1 q=>?_)
  cases f with
  | next=>exact wpAny_execs_nil q
  | ret v=>exact q
  | brk=>exact q
  | cont=>exact q
theorem Inv.quiet {pins:List (Addr×Obj)} {σ:St} {H:Hp} {s:Shared} (I:Inv X pins σ H s):interactive X.env=false:=by simp [interactive,I.ok.kind]
def m8 (te:TE):TS:=fun D σ H=>te σ H fun _ H1=>D.nx σ H1
theorem bf (he:PE X e te) (hs:swapsWith e none pos.line X.env=pure false:=by rfl):PS X (.Expr e pos) (m8 te):=by
  intro pins s σ H D I h
  exact wpAny_Expr_any (cP (he pins s σ H _ I h) fun v s1 ⟨x,H1,I1,r1,q1⟩=>⟨σ,H1,I1,q1⟩) I.quiet hs
def vd (te:TE):TS:=fun D σ H=>te σ H D.rt
theorem aJ (he:PE X e te):PS X (.Return (some e) pos) (vd te):=by
  intro pins s σ H D I h
  exact wpAny_Return_some (cP (he pins s σ H _ I h) fun v s1 ⟨x,H1,I1,r1,q1⟩=>⟨x,σ,H1,I1,r1,q1⟩)
def qJ:TS:=fun D _ H=>D.rt .non H
def vf (c:TT) (t u:TS):TS:=fun D σ H=>c σ H fun b H1=>if b=true then t D σ H1 else u D σ H1
theorem aY {c:Expr} {a b:List Stmt} {tc:TT} (hc:PT X c tc) (ha:Hv X a t) (hb:Hv X b u):PS X (.If c a b pos) (vf tc t u):=by
  intro pins s σ H D I h
  refine wpAny_If (cP (hc pins s σ H _ I h) fun d s1 ⟨H1,I1,q1⟩=>?_)
  cases d with
  | true=>exact ha pins s1 σ H1 D I1 q1
  | false=>exact hb pins s1 σ H1 D I1 q1
end
abbrev TG:=V→St→Hp→(St→Hp→Prop)→Prop
abbrev Rw:=List V→St→Hp→(St→Hp→Prop)→Prop
def PG (X:Cx) (target:Expr) (t:TG):Prop :=
  ∀ (pins:List (Addr×Obj)) (s:Shared) (σ:St) (H:Hp) (v:V) (u:Value) (Q:St→Hp→Prop),Inv X pins σ H s→RelV v u→t v σ H Q →
    wpAny (model X.prog X.w) X.A (assign target X.env u) (fun _ s'=>∃ σ' H',Inv X pins σ' H' s'∧Q σ' H') X.xe s
def Tq (X:Cx) (ts:List Expr) (t:Rw):Prop :=
  ∀ (pins:List (Addr×Obj)) (s:Shared) (σ:St) (H:Hp) (vs:List V) (us:List Value) (Q:St→Hp→Prop),Inv X pins σ H s→Vals vs us→t vs σ H Q →
    wpAny (model X.prog X.w) X.A (assignInOrder ((assignEach ts X.env).map (·.2)) us) (fun _ s'=>∃ σ' H',Inv X pins σ' H' s'∧Q σ' H') X.xe s
abbrev Tj:=V→V→Hp→VK→Prop
def UT (X:Cx) (op:Operator) (t:Tj):Prop :=
  ∀ (pins:List (Addr×Obj)) (s:Shared) (σ:St) (H:Hp) (x y:V) (v u:Value) (Q:VK),Inv X pins σ H s→RelV x v→RelV y u→t x y H Q →
    wpAny (model X.prog X.w) X.A (inplaceOp op v u) (EP X pins σ Q) X.xe s
section
variable {X:Cx} {pos:Pos}
def jy (i:Nat):TG:=fun v σ H Q=>Q (σ.set i (some v)) H
theorem bQ {i:Nat} {x:Str} (hN:X.N.Nodup) (hi:X.N[i]?=some x) (hx:Loc X.env.scope x) (hf:X.fn x=true∨X.env.scope.names.lookup x=some .local:=by first | exact .inl rfl | exact .inr rfl | assumption):PG X (.Name x pos) (jy i):=by
  intro pins s σ H v u Q I r h
  exact wpAny_assign_Name (m_ I hN hi hx r (fun s' I'=>⟨_,H,I',h⟩) hf)
def Uu:Rw:=fun vs σ H Q=>vs=[]∧Q σ H
def Sy (t:TG) (u:Rw):Rw:=fun vs σ H Q=>∃ v r,vs=v :: r∧t v σ H fun σ' H'=>u r σ' H' Q
theorem oA:Tq X [] Uu:=by
  intro pins s σ H vs us Q I r h
  obtain ⟨e,h⟩:=h
  subst e
  cases r
  exact assignInOrder_nil ⟨σ,H,I,h⟩
theorem cQ {e:Expr} {es:List Expr} {t:TG} {u:Rw} (h1:PG X e t) (h2:Tq X es u)
    (hs:(assignEach (e :: es) X.env).map (·.2)=assign e X.env :: (assignEach es X.env).map (·.2):=by rfl):Tq X (e :: es) (Sy t u):=by
  intro pins s σ H vs us Q I r h
  obtain ⟨v,vr,e1,h⟩:=h
  subst e1
  cases r with
  | cons r rr =>
    rw [hs]
    refine assignInOrder_cons (cP (h1 pins s σ H _ _ _ I r h) fun _ s1 ⟨σ1,H1,I1,q1⟩=>?_)
    exact h2 pins s1 σ1 H1 _ _ Q I1 rr q1
def Us (K:PySem.W.Frag) (n:Nat) (t:Rw):TG:=fun v σ H Q=>∃ a xs,v=.ref a∧dY K H a xs∧xs.length=n∧t xs σ H Q
theorem um {es:List Expr} {k:Nat} {t:Rw} {n:Nat} (hc:X.calm=true) (h:Tq X es t)
    (hn:(assignEach es X.env).length=n:=by rfl) (hst:(assignEach es X.env).findIdx? (·.1)=none:=by rfl):PG X (.Tuple es k pos) (Us X.K n t):=by
  intro pins s σ H v u Q I r hw
  obtain ⟨a,xs,e1,hq,hl,hw⟩:=hw
  subst e1
  cases r
  obtain ⟨its,rv,ht,hz⟩:=I.tuple hq
  refine assign_Tuple_tuple (I.ok.hd hc) ht (by simp [hn,← hl,rv.length]) hst fun h' hx=>?_
  have I1:Inv X pins σ H { s with heap:=h' }:=I.kept (t':=s.toks) fun b o e=>hx b o (Nat.ne_of_lt (Heap.lt_size e)) e
  exact h pins _ σ H xs _ Q I1 (by simpa using rv) hw
def vg (te:TE) (g:TG):TS:=fun D σ H=>te σ H fun x H1=>g x σ H1 D.nx
theorem aW {i:Nat} {x:Str} {e:Expr} {te:TE} {pos':Pos} (hN:X.N.Nodup) (hi:X.N[i]?=some x) (hx:Loc X.env.scope x) (he:PE X e te) (hs:swapsWith e (some (.Name x pos')) pos.line X.env=pure false:=by rfl) (hf:X.fn x=true∨X.env.scope.names.lookup x=some .local:=by first | exact .inl rfl | exact .inr rfl | assumption) :
    PS X (.Assign [.Name x pos'] e pos) (vg te (jy i)):=by
  intro pins s σ H D I h
  refine wpAny_Assign_Name (cP (he pins s σ H _ I h) fun v s1 ⟨y,H1,I1,r1,q1⟩=>?_) hs
  exact m_ I1 hN hi hx r1 (fun s2 I2=>⟨_,H1,I2,q1⟩) hf
def T5 (i:Nat) (te:TE) (ti:Tj):TS:=fun D σ H=>∃ x,σ[i]?=some (some x)∧te σ H fun y H1=>ti x y H1 fun z H2=>D.nx (σ.set i (some z)) H2
theorem Bd {i:Nat} {x:Str} {e:Expr} {te:TE} {op:Operator} {ti:Tj} {pos':Pos} (hN:X.N.Nodup) (hi:X.N[i]?=some x) (hx:Loc X.env.scope x) (he:PE X e te) (ho:UT X op ti) (hf:X.fn x=true∨X.env.scope.names.lookup x=some .local:=by first | exact .inl rfl | exact .inr rfl | assumption) :
    PS X (.AugAssign (.Name x pos') op e pos) (T5 i te ti):=by
  intro pins s σ H D I h
  obtain ⟨v,e1,h⟩:=h
  obtain ⟨m,hn,hl⟩:=I.loc
  have vis:RL X.env.scope x:=by rcases hx with k | k; exact .inl k; exact .inr (.inl k)
  obtain ⟨u,r,l⟩:=hl i x v hi e1 vis
  refine wpAny_AugAssign_Name ?_
  have go:wpAny (model X.prog X.w) X.A (eval e X.env) (fun w s₂=>wpAny (model X.prog X.w) X.A (inplaceOp op u w) (fun r s₃=>wpAny (model X.prog X.w) X.A (storeName X.env x r) (fun _=>SP X pins D .next) X.xe s₃) X.xe s₂) X.xe s:=by
    refine cP (he pins s σ H _ I h) fun w s1 ⟨y,H1,I1,r1,q1⟩=>?_
    refine cP (ho pins s1 σ H1 v y u w _ I1 r r1 q1) fun z s2 ⟨zv,H2,I2,r2,q2⟩=>?_
    exact m_ I2 hN hi hx r2 (fun s3 I3=>⟨_,H2,I3,q2⟩) hf
  rcases l with ⟨hk,hm⟩ | ⟨hk,c,hc,hcell⟩
  · exact wpAny_loadName_local I.ok.kind hk hn hm go
  · rcases hk with hk | hk
    · exact wpAny_loadName_cell I.ok.kind hk hc hcell go
    · rcases hx with k | k
      · have:X.env.scope.names.lookup x=some .free:=hk
        rw [k] at this; cases this
      · have:X.env.scope.names.lookup x=some .free:=hk
        rw [k] at this; cases this
def U3 (f:Int→Int→Int):Tj:=fun x y H Q=>∃ i j,x=.int i∧y=.int j∧Q (.int (f i j)) H
theorem Kf:UT X .Add (U3 fun i j=>i+j):=by
  intro pins s σ H x y v u Q I r1 r2 h
  obtain ⟨i,j,e1,e2,q⟩:=h
  subst e1; subst e2
  obtain ⟨t,rfl⟩:=r1
  obtain ⟨t',rfl⟩:=r2
  exact iadd_int ⟨.int _,H,I.tok _,⟨_,rfl⟩,q⟩
theorem Ra:UT X .Sub (U3 fun i j=>i - j):=by
  intro pins s σ H x y v u Q I r1 r2 h
  obtain ⟨i,j,e1,e2,q⟩:=h
  subst e1; subst e2
  obtain ⟨t,rfl⟩:=r1
  obtain ⟨t',rfl⟩:=r2
  exact isub_int ⟨.int _,H,I.tok _,⟨_,rfl⟩,q⟩
end
section
variable {X:Cx} {pos:Pos}
def Qh (c:TT) (tb:TS):TS:=fun D σ H=>∃ W:Nat→St→Hp→Prop,(∃ m,W m σ H)∧∀ m σ H,W m σ H →
  c σ H fun b H1=>if b=true then ∃ N:St→Hp→Prop,(∀ σ' H',N σ' H'→∃ m',m' < m∧W m' σ' H')∧tb { D with nx:=N,ct:=N,bk:=D.nx } σ H1 else D.nx σ H1
theorem jU {c:Expr} {body:List Stmt} {tc:TT} {tb:TS} (hp:PassesOwn (model X.prog X.w) X.A X.env X.xe) (hc:PT X c tc) (hb:Hv X body tb):PS X (.While c body [] pos) (Qh tc tb):=by
  intro pins s σ H D I h
  obtain ⟨W,⟨m0,w0⟩,turn⟩:=h
  refine wpAny_While (codeAny_whileLoop (fun n s'=>∃ σ' H',Inv X pins σ' H' s'∧W n σ' H') ?_ m0 ⟨σ,H,I,w0⟩)
  rintro n s1 ⟨σ1,H1,I1,w1⟩
  refine wpAny_passesOwn hp (cP (hc pins s1 σ1 H1 _ I1 (turn n σ1 H1 w1)) fun b s2 ⟨H2,I2,q2⟩=>?_)
  cases b with
  | true =>
    obtain ⟨N,hN,q2⟩:=q2
    rw [if_pos rfl]
    refine wpAny_passesOwn hp (cP (hb pins s2 σ1 H2 _ I2 q2) fun f s3 q3=>?_)
    cases f with
    | next =>
      obtain ⟨σ3,H3,I3,n3⟩:=q3
      obtain ⟨m',hm,w3⟩:=hN σ3 H3 n3
      exact ⟨m',hm,σ3,H3,I3,w3⟩
    | cont =>
      obtain ⟨σ3,H3,I3,n3⟩:=q3
      obtain ⟨m',hm,w3⟩:=hN σ3 H3 n3
      exact ⟨m',hm,σ3,H3,I3,w3⟩
    | brk=>exact q3
    | ret v=>exact q3
  | false =>
    rw [if_neg Bool.false_ne_true]
    exact wpAny_execs_nil ⟨σ1,H2,I2,q2⟩
end
structure It where
  go:Nat→Hp→Prop
  yld:Nat→Hp→V→Hp→Prop
  stop:Nat→Hp→Prop
def rQ (X:Cx) (pins:List (Addr×Obj)) (H:Hp) (b:Addr):Prop :=
  H b=none∧b≠X.env.locals∧b∉X.fs∧(b∈X.ex∨X.s_0.heap.objs.size≤b)∧(∀ x c,X.env.cells.lookup x=some c→c≠b)∧∀ p∈X.pn++pins,p.1≠b
theorem Inv.GQ {X:Cx} {pins:List (Addr×Obj)} {σ:St} {H H':Hp} {s:Shared} {b:Addr} (I:Inv X pins σ H s) (hb:s.heap.objs.size≤b) (hn:H' b=none):rQ X pins H' b:=by
  refine ⟨hn,Nat.ne_of_gt (Nat.lt_of_lt_of_le I.lt hb),I.Uk hb,.inr (Nat.le_trans I.sz hb),fun x c e z=>?_,fun p hp z=>?_⟩
  · obtain ⟨v,q⟩:=I.cell x c e
    exact absurd (Nat.lt_of_lt_of_le q.lt (by rw [z]; exact hb)) (Nat.lt_irrefl _)
  · exact absurd (Nat.lt_of_lt_of_le (Heap.lt_size (I.pin p hp).1) (by rw [z]; exact hb)) (Nat.lt_irrefl _)
structure Turn (P:Program) (w:World) (K:PySem.W.Frag) (tg:Expr) (J:It) (fp:List Addr) (it:Addr) (tn:Nat→Heap→Prop):Prop where
  mem:it∈fp
  obj:∀ i h,tn i h→∀ b∈fp,∃ o,h.get? b=some o∧∀ v,o.data≠.cell v
  keep:∀ i h h',tn i h→(∀ b∈fp,∀ o,h.get? b=some o→h'.get? b=some o)→tn i h'
  item:∀ (X:Cx),X.prog=P→X.w=w→X.K=K→X.calm=true→∀ (i:Nat) (pins:List (Addr×Obj)) (s:Shared) (σ:St) (H:Hp) (E:Value→Shared→Prop),Inv X pins σ H s→(∀ b∈fp,rQ X pins H b)→tn i s.heap→J.go i H →
    wpAny (model P w) X.A (pyNext (.ref it)) (fun r s1=>∃ u,r=some u ∧
      wpAny (model P w) X.A (letOwnedTupleGo tg (.ref it) u) (fun _ s2=>∃ x H',Inv X pins σ H' s2∧RelV x u∧J.yld i H x H'∧tn (i+1) s2.heap∧∀ b∈fp,H' b=none) E s1) E s
  done:∀ (X:Cx),X.prog=P→X.w=w→X.K=K→X.calm=true→∀ (i:Nat) (pins:List (Addr×Obj)) (s:Shared) (σ:St) (H:Hp) (E:Value→Shared→Prop),Inv X pins σ H s→(∀ b∈fp,rQ X pins H b)→tn i s.heap→J.stop i H →
    wpAny (model P w) X.A (pyNext (.ref it)) (fun r s1=>r=none∧Inv X pins σ H s1) E s
  self:∀ (A:Around) (i:Nat) (s:Shared) (Q:Value→Shared→Prop) (E:Value→Shared→Prop),tn i s.heap→Q (.ref it) s→wpAny (model P w) A (pyIter (.ref it)) Q E s
abbrev TI:=St→Hp→(It→Hp→Prop)→Prop
def PIE (X:Cx) (pins:List (Addr×Obj)) (σ:St) (tg:Expr) (R:It→Hp→Prop) (itv:Value) (s2:Shared):Prop :=
  ∃ (it:Addr) (fp:List Addr) (tn:Nat→Heap→Prop) (J:It) (H':Hp),itv=.ref it∧Inv X pins σ H' s2∧Turn X.prog X.w X.K tg J fp it tn∧tn 0 s2.heap∧(∀ b∈fp,rQ X pins H' b)∧R J H'
def PI (X:Cx) (tg iter:Expr) (wi:TI):Prop :=
  ∀ (pins:List (Addr×Obj)) (s:Shared) (σ:St) (H:Hp) (R:It→Hp→Prop),Inv X pins σ H s→wi σ H R →
    wpAny (model X.prog X.w) X.A (eval iter X.env) (fun v s1=>wpAny (model X.prog X.w) X.A (pyIter v) (PIE X pins σ tg R) X.xe s1) X.xe s
theorem Pq {M:Model} {A:Around} {E:Value→Shared→Prop} {s:Shared} {tg:Expr} {it:Addr} {u:Value} {o:Obj} {n:String} {vs:Array Value} {Q:Unit→Shared→Prop} (ho:s.heap.get? it=some o) (hc:o.cls=.type n) (hd:o.data=.fields vs)
    (hn:["enumerate","zip","dict_itemiterator","dict_reverseitemiterator","odict_iterator","itertools.zip_longest","itertools.pairwise"].contains n=false) (hQ:Q () s):wpAny M A (letOwnedTupleGo tg (.ref it) u) Q E s:=by
  unfold letOwnedTupleGo
  cases tg <;> first
    | exact wpAny_pure hQ
    | (cases u <;> first
        | exact wpAny_pure hQ
        | (refine wpAny_bind (wpAny_load ho ?_)
           rw [hc,hd]
           show wpAny M A (if (["enumerate","zip","dict_itemiterator","dict_reverseitemiterator","odict_iterator","itertools.zip_longest","itertools.pairwise"].contains n && vs[0]?==some (rawInt _))=true then _ else _) Q E s
           rw [if_neg (by intro h; rw [hn,Bool.false_and] at h; cases h)]
           exact wpAny_pure hQ))
def PP (K:PySem.W.Frag) (a:Addr):It :=
  ⟨fun i H=>∃ xs x,bG K H a xs∧xs[i]?=some x,fun i H x H'=>H'=H∧∀ xs,bG K H a xs→xs[i]?=some x,fun i H=>∃ xs,bG K H a xs∧xs.length≤i⟩
def S_ (K:PySem.W.Frag) (a:Addr):It :=
  ⟨fun i H=>∃ xs x,dY K H a xs∧xs[i]?=some x,fun i H x H'=>H'=H∧∀ xs,dY K H a xs→xs[i]?=some x,fun i H=>∃ xs,dY K H a xs∧xs.length≤i⟩
theorem Ej {P:Program} {w:World} {K:PySem.W.Frag} {tg:Expr} (a it:Addr):Turn P w K tg (PP K a) [it] it (fun i h=>h.IsListIter it a i) where
  mem:=by simp
  obj:=fun i h st b hb=>by
    have e:b=it:=by simpa using hb
    subst e
    obtain ⟨o,e,c,d⟩:=st
    exact ⟨o,e,fun v z=>by rw [d] at z; cases z⟩
  keep:=fun i h h' st k=>st.at fun o e=>k it (by simp) o e
  item:=by
    intro X hP hw hK hc i pins s σ H E I hf st hg
    subst hP hw hK
    obtain ⟨xs,x,hq,hx⟩:=hg
    obtain ⟨its,rv,p,hz⟩:=I.list hq
    obtain ⟨u,hu,ru⟩:=rv.get hx
    obtain ⟨f0,f1,f2,f3,f4,f5⟩:=hf it (by simp)
    refine wpAny_pyNext_list_item st p.isList (x:=u) (by simpa using hu) fun h' st' sb=>?_
    have I1:Inv X pins σ H { s with heap:=h' }:=I.turned (t':=s.toks) (fun b o hb e=>(sb.2 b hb).trans e) f0 f1 f3 f4 f5
    obtain ⟨o,e,c,d⟩:=id st'
    exact ⟨u,rfl,Pq (s:={ s with heap:=h' }) e c d (by decide) ⟨x,H,I1,ru,⟨rfl,fun ys hy=>by rw [I.oJ hy hq]; exact hx⟩,st',fun b hb=>(hf b hb).1⟩⟩
  done:=by
    intro X hP hw hK hc i pins s σ H E I hf st hg
    subst hP hw hK
    obtain ⟨xs,hq,hx⟩:=hg
    obtain ⟨its,rv,p,hz⟩:=I.list hq
    obtain ⟨f0,f1,f2,f3,f4,f5⟩:=hf it (by simp)
    have hl:=rv.length
    exact wpAny_pyNext_list_end (I.ok.hd hc) st p.isList (by simp; omega) fun h' eb=>⟨rfl,I.turned (t':=s.toks) (fun b o hb e=>eb b o hb e) f0 f1 f3 f4 f5⟩
  self:=fun _ _ _ _ _ st h=>wpAny_pyIter_listiter st h
theorem Ad {P:Program} {w:World} {K:PySem.W.Frag} {tg:Expr} (a it:Addr):Turn P w K tg (S_ K a) [it] it (fun i h=>h.IsTupleIter it a i) where
  mem:=by simp
  obj:=fun i h st b hb=>by
    have e:b=it:=by simpa using hb
    subst e
    obtain ⟨o,e,c,d⟩:=st
    exact ⟨o,e,fun v z=>by rw [d] at z; cases z⟩
  keep:=fun i h h' st k=>st.at fun o e=>k it (by simp) o e
  item:=by
    intro X hP hw hK hc i pins s σ H E I hf st hg
    subst hP hw hK
    obtain ⟨xs,x,hq,hx⟩:=hg
    obtain ⟨its,rv,p,hz⟩:=I.tuple hq
    obtain ⟨u,hu,ru⟩:=rv.get hx
    obtain ⟨f0,f1,f2,f3,f4,f5⟩:=hf it (by simp)
    refine wpAny_pyNext_tuple_item st (show s.heap.IsTuple a its.toArray from p) (x:=u) (by simpa using hu) fun h' st' sb=>?_
    have I1:Inv X pins σ H { s with heap:=h' }:=I.turned (t':=s.toks) (fun b o hb e=>(sb.2 b hb).trans e) f0 f1 f3 f4 f5
    obtain ⟨o,e,c,d⟩:=id st'
    exact ⟨u,rfl,Pq (s:={ s with heap:=h' }) e c d (by decide) ⟨x,H,I1,ru,⟨rfl,fun ys hy=>by rw [I.El hy hq]; exact hx⟩,st',fun b hb=>(hf b hb).1⟩⟩
  done:=by
    intro X hP hw hK hc i pins s σ H E I hf st hg
    subst hP hw hK
    obtain ⟨xs,hq,hx⟩:=hg
    obtain ⟨its,rv,p,hz⟩:=I.tuple hq
    obtain ⟨f0,f1,f2,f3,f4,f5⟩:=hf it (by simp)
    have hl:=rv.length
    exact wpAny_pyNext_tuple_end (I.ok.hd hc) st (show s.heap.IsTuple a its.toArray from p) (by simp; omega) fun h' eb=>⟨rfl,I.turned (t':=s.toks) (fun b o hb e=>eb b o hb e) f0 f1 f3 f4 f5⟩
  self:=fun _ _ _ _ _ st h=>wpAny_pyIter_tupleiter st h
end L2
namespace L2
open PySem PySem.Spec PyProof.Rows
section
variable {X:Cx} {tg:Expr}
def Su (K:PySem.W.Frag) (tl:TE):TI:=fun σ H R=>tl σ H fun x H1=>∃ a,x=.ref a∧(∃ xs,bG K H1 a xs)∧R (PP K a) H1
def Ur (K:PySem.W.Frag) (tl:TE):TI:=fun σ H R=>tl σ H fun x H1=>∃ a,x=.ref a∧(∃ xs,dY K H1 a xs)∧R (S_ K a) H1
theorem ir {l:Expr} {tl:TE} (hl:PE X l tl):PI X tg l (Su X.K tl):=by
  intro pins s σ H R I h
  refine cP (hl pins s σ H _ I h) fun v s1 ⟨x,H1,I1,r1,q1⟩=>?_
  obtain ⟨a,e,⟨xs,hq⟩,q⟩:=q1
  subst e
  cases r1
  obtain ⟨its,rv,p,hz⟩:=I1.list hq
  refine wpAny_pyIter_list p.isList ?_
  refine ⟨s1.heap.objs.size,[s1.heap.objs.size],_,_,H1,rfl,I1.kept (t':=s1.toks) fun b o e=>Heap.get?_push_of_some _ e,Ej a _,⟨_,Heap.get?_push_size _ rfl,rfl,rfl⟩,fun b hb=>?_,q⟩
  have e:b=s1.heap.objs.size:=by simpa using hb
  subst e
  exact I1.GQ (Nat.le_refl _) (I1.hok.fresh (Nat.le_refl _))
theorem Jx {l:Expr} {tl:TE} (hl:PE X l tl):PI X tg l (Ur X.K tl):=by
  intro pins s σ H R I h
  refine cP (hl pins s σ H _ I h) fun v s1 ⟨x,H1,I1,r1,q1⟩=>?_
  obtain ⟨a,e,⟨xs,hq⟩,q⟩:=q1
  subst e
  cases r1
  obtain ⟨its,rv,p,hz⟩:=I1.tuple hq
  refine wpAny_pyIter_tuple (show s1.heap.IsTuple a its.toArray from p) ?_
  refine ⟨s1.heap.objs.size,[s1.heap.objs.size],_,_,H1,rfl,I1.kept (t':=s1.toks) fun b o e=>Heap.get?_push_of_some _ e,Ad a _,⟨_,Heap.get?_push_size _ rfl,rfl,rfl⟩,fun b hb=>?_,q⟩
  have e:b=s1.heap.objs.size:=by simpa using hb
  subst e
  exact I1.GQ (Nat.le_refl _) (I1.hok.fresh (Nat.le_refl _))
def T3 (wi:TI) (g:TG) (tb:TS):TS:=fun D σ H=>wi σ H fun J H1=>∃ W:Nat→Nat→St→Hp→Prop,(∃ m,W 0 m σ H1)∧∀ i m σ H,W i m σ H →
  (J.stop i H∧D.nx σ H)∨(J.go i H∧∃ N:St→Hp→Prop,(∀ σ' H',N σ' H'→∃ m',m' < m∧W (i+1) m' σ' H')∧∀ x H',J.yld i H x H'→g x σ H' fun σ2 H2=>tb { D with nx:=N,ct:=N,bk:=D.nx } σ2 H2)
def ul (fp:List Addr) (h:Heap):List (Addr×Obj):=fp.filterMap fun b=>(h.get? b).map fun o=>(b,o)
theorem mC {fp:List Addr} {h:Heap} {b:Addr} {o:Obj} (hb:b∈fp) (e:h.get? b=some o):(b,o)∈ul fp h:=List.mem_filterMap.mpr ⟨b,hb,by rw [e]; rfl⟩
theorem Ge {fp:List Addr} {h:Heap} {p:Addr×Obj} (hp:p∈ul fp h):p.1∈fp∧h.get? p.1=some p.2:=by
  obtain ⟨b,hb,e⟩:=List.mem_filterMap.mp hp
  cases q:h.get? b with
  | none=>rw [q] at e; cases e
  | some o =>
    rw [q] at e
    have e':(b,o)=p:=Option.some.inj e
    subst e'
    exact ⟨hb,q⟩
theorem Inv.pinned {pins:List (Addr×Obj)} {σ:St} {H:Hp} {s:Shared} {fp:List Addr} (I:Inv X pins σ H s) (hf:∀ b∈fp,rQ X pins H b) (ho:∀ b∈fp,∃ o,s.heap.get? b=some o∧∀ v,o.data≠.cell v):Inv X (pins++ul fp s.heap) σ H s :=
  I.Df fun p hp=>(List.mem_append.mp hp).elim (fun z=>I.pin p (List.mem_append_right _ z)) fun z=>by
    obtain ⟨hb,e⟩:=Ge z
    obtain ⟨f0,f1,f2,_⟩:=hf p.1 hb
    obtain ⟨o,e',d⟩:=ho p.1 hb
    rw [e] at e'; cases e'
    exact ⟨e,f0,f1,f2,d⟩
theorem Inv.mW {pins pl:List (Addr×Obj)} {σ:St} {H:Hp} {s:Shared} (I:Inv X (pins++pl) σ H s):Inv X pins σ H s:=I.Df fun p hp=>I.pin p (List.mem_append_right _ (List.mem_append_left _ hp))
theorem jV {iter:Expr} {body:List Stmt} {wi:TI} {g:TG} {tb:TS} {pos:Pos} (hp:PassesOwn (model X.prog X.w) X.A X.env X.xe) (hc:X.calm=true) (hi:PI X tg iter wi) (hg:PG X tg g) (hb:Hv X body tb)
    (hs:∀ x,foldedSetIterable iter X.env x=pure x:=by intro _; rfl):PS X (.For tg iter body [] pos) (T3 wi g tb):=by
  intro pins s σ H D I h
  refine wpAny_For (cP (hi pins s σ H _ I h) fun v s1 h1=>cP h1 fun itv s2 h2=>?_) hs
  obtain ⟨it,fp,tn,J,H2,e,I2,T,st2,f2,W,⟨m0,w0⟩,turn⟩:=h2
  subst e
  have stat:∀ {H':Hp},(∀ b∈fp,H' b=none)→∀ b∈fp,rQ X pins H' b:=fun hn b hb=>⟨hn b hb,(f2 b hb).2⟩
  refine codeAny_forLoop_any (fun n s'=>∃ i σ' H',Inv X pins σ' H' s'∧tn i s'.heap∧(∀ b∈fp,H' b=none)∧W i n σ' H') ?_ m0 ⟨0,σ,H2,I2,st2,fun b hb=>(f2 b hb).1,w0⟩
  rintro n s3 ⟨i,σ3,H3,I3,st3,fr3,w3⟩
  rcases turn i n σ3 H3 w3 with ⟨stop,qn⟩ | ⟨go,N,hN,step⟩
  · refine wpAny_passesOwn hp (cP (T.done X rfl rfl rfl hc i pins s3 σ3 H3 X.xe I3 (stat fr3) st3 stop) fun r s4 ⟨hr,I4⟩=>?_)
    subst hr
    exact wpAny_execs_nil ⟨σ3,H3,I4,qn⟩
  · refine wpAny_passesOwn hp (cP (T.item X rfl rfl rfl hc i pins s3 σ3 H3 X.xe I3 (stat fr3) st3 go) fun r s4 ⟨u,hr,h4⟩=>?_)
    subst hr
    refine wpAny_passesOwn hp (cP h4 fun _ s5 ⟨x,H5,I5,r5,y5,st5,fr5⟩=>?_)
    have I5':=I5.pinned (stat fr5) (T.obj _ _ st5)
    refine wpAny_passesOwn hp (cP (hg _ s5 σ3 H5 x u _ I5' r5 (step x H5 y5)) fun _ s6 ⟨σ6,H6,I6,q6⟩=>?_)
    refine wpAny_passesOwn hp (cP (hb _ s6 σ6 H6 _ I6 q6) fun f s7 q7=>?_)
    have again:∀ {σ7:St} {H7:Hp},Inv X (pins++ul fp s5.heap) σ7 H7 s7→N σ7 H7→∃ m,m < n∧∃ i σ' H',Inv X pins σ' H' s7∧tn i s7.heap∧(∀ b∈fp,H' b=none)∧W i m σ' H':=fun {σ7 H7} I7 n7=>by
      obtain ⟨m',hm,w7⟩:=hN σ7 H7 n7
      refine ⟨m',hm,i+1,σ7,H7,I7.mW,T.keep _ _ _ st5 fun b hb o e=>(I7.pin (b,o) (List.mem_append_right _ (List.mem_append_right _ (mC hb e)))).1,fun b hb=>?_,w7⟩
      obtain ⟨o,e,d⟩:=T.obj _ _ st5 b hb
      exact (I7.pin (b,o) (List.mem_append_right _ (List.mem_append_right _ (mC hb e)))).2.1
    cases f with
    | next=>obtain ⟨σ7,H7,I7,n7⟩:=q7; exact again I7 n7
    | cont=>obtain ⟨σ7,H7,I7,n7⟩:=q7; exact again I7 n7
    | brk=>obtain ⟨σ7,H7,I7,q7⟩:=q7; exact ⟨σ7,H7,I7.mW,q7⟩
    | ret v=>obtain ⟨x7,σ7,H7,I7,r7,q7⟩:=q7; exact ⟨x7,σ7,H7,I7.mW,r7,q7⟩
end
theorem uL {K:PySem.W.Frag} {a:Addr} {xs:List V} {g:TG} {tb:TS} {D:Ends} {σ:St} {H:Hp} (Pv:Nat→St→Hp→Prop) (h0:Pv 0 σ H) (hl:∀ i σ H,i≤xs.length→Pv i σ H→bG K H a xs)
    (hs:∀ i x σ H,xs[i]?=some x→Pv i σ H→g x σ H fun σ2 H2=>tb { D with nx:=Pv (i+1),ct:=Pv (i+1),bk:=D.nx } σ2 H2) (hd:∀ σ H,Pv xs.length σ H→D.nx σ H) :
    ∃ W:Nat→Nat→St→Hp→Prop,(∃ m,W 0 m σ H)∧∀ i m σ H,W i m σ H →
      ((PP K a).stop i H∧D.nx σ H)∨((PP K a).go i H∧∃ N:St→Hp→Prop,(∀ σ' H',N σ' H'→∃ m',m' < m∧W (i+1) m' σ' H')∧∀ x H',(PP K a).yld i H x H'→g x σ H' fun σ2 H2=>tb { D with nx:=N,ct:=N,bk:=D.nx } σ2 H2):=by
  refine ⟨fun i m σ H=>m=xs.length - i∧i≤xs.length∧Pv i σ H,⟨xs.length,by simp,Nat.zero_le _,h0⟩,?_⟩
  rintro i m σ H ⟨rfl,hi,p⟩
  have q:=hl i σ H hi p
  by_cases hlt:i < xs.length
  · refine .inr ⟨⟨xs,xs[i],q,by simp [hlt]⟩,Pv (i+1),fun σ' H' p'=>⟨xs.length - (i+1),by omega,rfl,hlt,p'⟩,fun x H' y=>?_⟩
    obtain ⟨e,y⟩:=y
    subst e
    exact hs i x σ _ (y xs q) p
  · have e:i=xs.length:=by omega
    subst e
    exact .inl ⟨⟨xs,q,Nat.le_refl _⟩,hd σ H p⟩
theorem Dz {K:PySem.W.Frag} {a:Addr} {xs:List V} {g:TG} {tb:TS} {D:Ends} {σ:St} {H:Hp} (Pv:Nat→St→Hp→Prop) (h0:Pv 0 σ H) (hl:∀ i σ H,i≤xs.length→Pv i σ H→dY K H a xs)
    (hs:∀ i x σ H,xs[i]?=some x→Pv i σ H→g x σ H fun σ2 H2=>tb { D with nx:=Pv (i+1),ct:=Pv (i+1),bk:=D.nx } σ2 H2) (hd:∀ σ H,Pv xs.length σ H→D.nx σ H) :
    ∃ W:Nat→Nat→St→Hp→Prop,(∃ m,W 0 m σ H)∧∀ i m σ H,W i m σ H →
      ((S_ K a).stop i H∧D.nx σ H)∨((S_ K a).go i H∧∃ N:St→Hp→Prop,(∀ σ' H',N σ' H'→∃ m',m' < m∧W (i+1) m' σ' H')∧∀ x H',(S_ K a).yld i H x H'→g x σ H' fun σ2 H2=>tb { D with nx:=N,ct:=N,bk:=D.nx } σ2 H2):=by
  refine ⟨fun i m σ H=>m=xs.length - i∧i≤xs.length∧Pv i σ H,⟨xs.length,by simp,Nat.zero_le _,h0⟩,?_⟩
  rintro i m σ H ⟨rfl,hi,p⟩
  have q:=hl i σ H hi p
  by_cases hlt:i < xs.length
  · refine .inr ⟨⟨xs,xs[i],q,by simp [hlt]⟩,Pv (i+1),fun σ' H' p'=>⟨xs.length - (i+1),by omega,rfl,hlt,p'⟩,fun x H' y=>?_⟩
    obtain ⟨e,y⟩:=y
    subst e
    exact hs i x σ _ (y xs q) p
  · have e:i=xs.length:=by omega
    subst e
    exact .inl ⟨⟨xs,q,Nat.le_refl _⟩,hd σ H p⟩
end L2
namespace L2
open PySem PySem.Spec PyProof.Rows
abbrev R2:=V→V→Hp→VK→Prop
def u0 (X:Cx) (f:Value→Value→Sem Value) (r:R2):Prop :=
  ∀ (pins:List (Addr×Obj)) (s:Shared) (σ:St) (H:Hp) (x y:V) (v u:Value) (Q:VK),Inv X pins σ H s→RelV x v→RelV y u→r x y H Q →
    wpAny (model X.prog X.w) X.A (f v u) (EP X pins σ Q) X.xe s
def UG (X:Cx) (f:Value→Sem Value) (r:V→Hp→VK→Prop):Prop :=
  ∀ (pins:List (Addr×Obj)) (s:Shared) (σ:St) (H:Hp) (x:V) (v:Value) (Q:VK),Inv X pins σ H s→RelV x v→r x H Q →
    wpAny (model X.prog X.w) X.A (f v) (EP X pins σ Q) X.xe s
def lY (X:Cx) (f:Value) (r:List V→Hp→VK→Prop):Prop :=
  ∀ (pins:List (Addr×Obj)) (s:Shared) (σ:St) (H:Hp) (xs:List V) (us:List Value) (Q:VK),Inv X pins σ H s→Vals xs us→r xs H Q →
    wpAny (model X.prog X.w) X.A (call f us) (EP X pins σ Q) X.xe s
def UJ (X:Cx) (r:V→Hp→(Bool→Hp→Prop)→Prop):Prop :=
  ∀ (pins:List (Addr×Obj)) (s:Shared) (σ:St) (H:Hp) (x:V) (v:Value) (Q:Bool→Hp→Prop),Inv X pins σ H s→RelV x v→r x H Q →
    wpAny (model X.prog X.w) X.A (truthy v) (TP X pins σ Q) X.xe s
def z_ (r:R2) (ta tb:TE):TE:=fun σ H Q=>ta σ H fun x H1=>tb σ H1 fun y H2=>r x y H2 Q
def UW (r:V→Hp→VK→Prop) (ta:TE):TE:=fun σ H Q=>ta σ H fun x H1=>r x H1 Q
def rI (C:Int→Int→Prop) (g:Int→Int→V):R2:=fun x y H Q=>∃ i j,x=.int i∧y=.int j∧C i j∧Q (g i j) H
def yN (g:Int→Int→V):R2:=fun x y H Q=>∃ i j,x=.int i∧y=.int j∧Q (g i j) H
def rU (g:Int→V):V→Hp→VK→Prop:=fun x H Q=>∃ i,x=.int i∧Q (g i) H
section
variable {X:Cx} {a b c:Expr} {ta tb tc:TE} {pos:Pos}
theorem Rk (ha:PE X a ta) (hb:PE X b tb) {pins:List (Addr×Obj)} {s:Shared} {σ:St} {H:Hp} {R:V→V→Hp→Prop} (I:Inv X pins σ H s)
    (h:ta σ H fun x H1=>tb σ H1 fun y H2=>R x y H2) {Q:Value→Shared→Prop} {f:Value→Value→Sem Value}
    (hf:∀ v u s2 x y H2,Inv X pins σ H2 s2→RelV x v→RelV y u→R x y H2→wpAny (model X.prog X.w) X.A (f v u) Q X.xe s2) :
    wpAny (model X.prog X.w) X.A (eval a X.env) (fun v s₁=>wpAny (model X.prog X.w) X.A (eval b X.env) (fun u s₂=>wpAny (model X.prog X.w) X.A (f v u) Q X.xe s₂) X.xe s₁) X.xe s:=by
  refine cP (ha pins s σ H _ I h) fun v s1 ⟨x,H1,I1,r1,q1⟩=>?_
  refine cP (hb pins s1 σ H1 _ I1 q1) fun u s2 ⟨y,H2,I2,r2,q2⟩=>?_
  exact hf v u s2 x y H2 I2 r1 r2 q2
theorem cJ {op:Operator} {r:R2} (ho:u0 X (binaryOp op) r) (ha:PE X a ta) (hb:PE X b tb):PE X (.BinOp a op b pos) (z_ r ta tb):=by
  intro pins s σ H Q I h
  exact wpAny_BinOp (Rk ha hb I h fun v u s2 x y H2 I2 rx ry q=>ho pins s2 σ H2 x y v u Q I2 rx ry q)
theorem gC {op:UnaryOp} {r:V→Hp→VK→Prop} (ho:UG X (unaryOp op) r) (ha:PE X a ta):PE X (.UnaryOp op a pos) (UW r ta):=by
  intro pins s σ H Q I h
  exact UnaryOp_ (cP (ha pins s σ H _ I h) fun v s1 ⟨x,H1,I1,r1,q1⟩=>ho pins s1 σ H1 x v Q I1 r1 q1)
theorem Vh {f:Value→Value→Sem Value} {C:Int→Int→Prop} {g:Int→Int→Int}
    (rule:∀ (i j:Int) (t u:Tok) (s:Shared) (Q:Value→Shared→Prop) (E:Value→Shared→Prop),C i j→Q (.int (g i j) s.toks) { s with toks:=s.toks+1 }→wpAny (model X.prog X.w) X.A (f (.int i t) (.int j u)) Q E s) :
    u0 X f (rI C fun i j=>.int (g i j)):=by
  intro pins s σ H x y v u Q I rx ry h
  obtain ⟨i,j,rfl,rfl,hc,q⟩:=h
  obtain ⟨t,rfl⟩:=rx
  obtain ⟨t',rfl⟩:=ry
  exact rule i j t t' s _ _ hc ⟨.int (g i j),H,I.tok _,⟨_,rfl⟩,q⟩
theorem R9 {f:Value→Value→Sem Value} {g:Int→Int→Int}
    (rule:∀ (i j:Int) (t u:Tok) (s:Shared) (Q:Value→Shared→Prop) (E:Value→Shared→Prop),Q (.int (g i j) s.toks) { s with toks:=s.toks+1 }→wpAny (model X.prog X.w) X.A (f (.int i t) (.int j u)) Q E s) :
    u0 X f (yN fun i j=>.int (g i j)):=by
  intro pins s σ H x y v u Q I rx ry h
  obtain ⟨i,j,rfl,rfl,q⟩:=h
  obtain ⟨t,rfl⟩:=rx
  obtain ⟨t',rfl⟩:=ry
  exact rule i j t t' s _ _ ⟨.int (g i j),H,I.tok _,⟨_,rfl⟩,q⟩
theorem MN {f:Value→Value→Sem Value} {g:Int→Int→Bool}
    (rule:∀ (i j:Int) (t u:Tok) (s:Shared) (Q:Value→Shared→Prop) (E:Value→Shared→Prop),Q (.bool (g i j)) s→wpAny (model X.prog X.w) X.A (f (.int i t) (.int j u)) Q E s) :
    u0 X f (yN fun i j=>.bl (g i j)):=by
  intro pins s σ H x y v u Q I rx ry h
  obtain ⟨i,j,rfl,rfl,q⟩:=h
  obtain ⟨t,rfl⟩:=rx
  obtain ⟨t',rfl⟩:=ry
  exact rule i j t t' s _ _ ⟨.bl (g i j),H,I,rfl,q⟩
theorem gA:u0 X (binaryOp .Add) (yN fun i j=>.int (i+j)):=R9 fun _ _ _ _ _ _ _ q=>add_int q
theorem iH:u0 X (binaryOp .Sub) (yN fun i j=>.int (i - j)):=R9 fun _ _ _ _ _ _ _ q=>sub_int q
theorem QQ:u0 X (binaryOp .Mod) (rI (fun _ j=>0 < j) fun i j=>.int (i % j)):=Vh fun i j _ _ _ _ _ hc q=>by
  have h1:(0:Int) < j:=hc
  exact mod_int' (by omega) (by rw [Int.fmod_eq_emod_of_nonneg i (by omega)]; exact q)
theorem Vb {f:Value→Sem Value} {g:Int→Int}
    (rule:∀ (i:Int) (t:Tok) (s:Shared) (Q:Value→Shared→Prop) (E:Value→Shared→Prop),Q (.int (g i) s.toks) { s with toks:=s.toks+1 }→wpAny (model X.prog X.w) X.A (f (.int i t)) Q E s) :
    UG X f (rU fun i=>.int (g i)):=by
  intro pins s σ H x v Q I rx h
  obtain ⟨i,rfl,q⟩:=h
  obtain ⟨t,rfl⟩:=rx
  exact rule i t s _ _ ⟨.int (g i),H,I.tok _,⟨_,rfl⟩,q⟩
theorem d_:UG X (unaryOp .USub) (rU fun i=>.int (-i)):=Vb fun _ _ _ _ _ q=>neg_int q
end
def Aw:V→V→Bool
  | .non,.non=>true | .non,.int _=>true | .int _,.non=>true | .non,.bl _=>true | .bl _,.non=>true | .non,.str _=>true | .str _,.non=>true
  | .int _,.int _=>true | .bl _,.bl _=>true | .str _,.str _=>true | .byt _,.byt _=>true
  | .int _,.str _=>true | .str _,.int _=>true | .bl _,.str _=>true | .str _,.bl _=>true
  | _,_=>false
def Mr:R2:=fun x y H Q=>Aw x y=true∧Q (.bl (decide (x=y))) H
def Mp:R2:=fun x y H Q=>Aw x y=true∧Q (.bl (!decide (x=y))) H
theorem DR {i j:Int}:decide (V.int i=V.int j)=(i==j):=by
  rw [Bool.eq_iff_iff]
  simp
theorem KJ {i j:Bool}:decide (V.bl i=V.bl j)=(i==j):=by
  rw [Bool.eq_iff_iff]
  simp
theorem DQ {i j:Str}:decide (V.str i=V.str j)=(i==j):=by
  rw [Bool.eq_iff_iff]
  simp
theorem DW {i j:Array UInt8}:decide (V.byt i=V.byt j)=(i.toList==j.toList):=by
  rw [Bool.eq_iff_iff]
  cases i
  cases j
  simp
section
variable {X:Cx} {a b c:Expr} {ta tb tc:TE} {pos:Pos}
theorem bN {pins:List (Addr×Obj)} {σ:St} {H:Hp} {s:Shared} {Q:VK} {k k':Bool} (I:Inv X pins σ H s) (q:Q (.bl k) H) (e:k=k'):EP X pins σ Q (.bool k') s:=by
  subst e
  exact ⟨.bl k,H,I,rfl,q⟩
theorem bI:u0 X (compareOp .Eq) Mr:=by
  intro pins s σ H x y v u Q I rx ry h
  obtain ⟨hs,q⟩:=h
  cases x with
  | non =>
    cases rx
    cases y with
    | non=>cases ry; exact PySem.EqNone.eq_none_none (bN I q (by simp))
    | bl j=>cases ry; exact PySem.EqNone.eq_none_bool (bN I q (by simp))
    | int j=>obtain ⟨t',rfl⟩:=ry; exact PySem.EqNone.eq_none_int (bN I q (by simp))
    | str j=>obtain ⟨t',rfl⟩:=ry; exact PySem.EqNone.eq_none_str (bN I q (by simp))
    | _=>exact absurd (show false=true from hs) Bool.false_ne_true
  | bl i =>
    cases rx
    cases y with
    | non=>cases ry; exact PySem.EqNone.eq_bool_none (bN I q (by simp))
    | bl j=>cases ry; exact eq_bool (bN I q KJ)
    | str j=>obtain ⟨t',rfl⟩:=ry; exact PySem.EqMixed.eq_bool_str (bN I q (by simp))
    | _=>exact absurd (show false=true from hs) Bool.false_ne_true
  | int i =>
    obtain ⟨t,rfl⟩:=rx
    cases y with
    | non=>cases ry; exact PySem.EqNone.eq_int_none (bN I q (by simp))
    | int j=>obtain ⟨t',rfl⟩:=ry; exact eq_int (bN I q DR)
    | str j=>obtain ⟨t',rfl⟩:=ry; exact PySem.EqMixed.eq_int_str (bN I q (by simp))
    | _=>exact absurd (show false=true from hs) Bool.false_ne_true
  | str i =>
    obtain ⟨t,rfl⟩:=rx
    cases y with
    | non=>cases ry; exact PySem.EqNone.eq_str_none (bN I q (by simp))
    | bl j=>cases ry; exact PySem.EqMixed.eq_str_bool (bN I q (by simp))
    | int j=>obtain ⟨t',rfl⟩:=ry; exact PySem.EqMixed.eq_str_int (bN I q (by simp))
    | str j=>obtain ⟨t',rfl⟩:=ry; exact eq_str (bN I q DQ)
    | _=>exact absurd (show false=true from hs) Bool.false_ne_true
  | byt i =>
    obtain ⟨t,rfl⟩:=rx
    cases y with
    | byt j=>obtain ⟨t',rfl⟩:=ry; exact PySem.W.eq_bytes (bN I q DW)
    | _=>exact absurd (show false=true from hs) Bool.false_ne_true
  | _=>cases y <;> exact absurd (show false=true from hs) Bool.false_ne_true
theorem ut:u0 X (compareOp .NotEq) Mp:=by
  intro pins s σ H x y v u Q I rx ry h
  obtain ⟨hs,q⟩:=h
  cases x with
  | non =>
    cases rx
    cases y with
    | non=>cases ry; exact PySem.EqNone.ne_none_none (bN I q (by simp))
    | bl j=>cases ry; exact PySem.EqNone.ne_none_bool (bN I q (by simp))
    | int j=>obtain ⟨t',rfl⟩:=ry; exact PySem.EqNone.ne_none_int (bN I q (by simp))
    | str j=>obtain ⟨t',rfl⟩:=ry; exact PySem.EqNone.ne_none_str (bN I q (by simp))
    | _=>exact absurd (show false=true from hs) Bool.false_ne_true
  | bl i =>
    cases rx
    cases y with
    | non=>cases ry; exact PySem.EqNone.ne_bool_none (bN I q (by simp))
    | bl j=>cases ry; exact ne_bool (bN I q (congrArg not KJ))
    | str j=>obtain ⟨t',rfl⟩:=ry; exact PySem.EqMixed.ne_bool_str (bN I q (by simp))
    | _=>exact absurd (show false=true from hs) Bool.false_ne_true
  | int i =>
    obtain ⟨t,rfl⟩:=rx
    cases y with
    | non=>cases ry; exact PySem.EqNone.ne_int_none (bN I q (by simp))
    | int j=>obtain ⟨t',rfl⟩:=ry; exact ne_int (bN I q (congrArg not DR))
    | str j=>obtain ⟨t',rfl⟩:=ry; exact PySem.EqMixed.ne_int_str (bN I q (by simp))
    | _=>exact absurd (show false=true from hs) Bool.false_ne_true
  | str i =>
    obtain ⟨t,rfl⟩:=rx
    cases y with
    | non=>cases ry; exact PySem.EqNone.ne_str_none (bN I q (by simp))
    | bl j=>cases ry; exact PySem.EqMixed.ne_str_bool (bN I q (by simp))
    | int j=>obtain ⟨t',rfl⟩:=ry; exact PySem.EqMixed.ne_str_int (bN I q (by simp))
    | str j=>obtain ⟨t',rfl⟩:=ry; exact ne_str (bN I q (congrArg not DQ))
    | _=>exact absurd (show false=true from hs) Bool.false_ne_true
  | byt i =>
    obtain ⟨t,rfl⟩:=rx
    cases y with
    | byt j=>obtain ⟨t',rfl⟩:=ry; exact PySem.W.ne_bytes (bN I q (congrArg not DW))
    | _=>exact absurd (show false=true from hs) Bool.false_ne_true
  | _=>cases y <;> exact absurd (show false=true from hs) Bool.false_ne_true
theorem jw:u0 X (compareOp .Lt) (yN fun i j=>.bl (decide (i < j))):=MN fun _ _ _ _ _ _ _ q=>lt_int q
theorem lR:u0 X (compareOp .LtE) (yN fun i j=>.bl (decide (i≤j))):=MN fun _ _ _ _ _ _ _ q=>le_int q
theorem qT:u0 X (compareOp .Gt) (yN fun i j=>.bl (decide (j < i))):=MN fun _ _ _ _ _ _ _ q=>gt_int q
theorem uv:u0 X (compareOp .GtE) (yN fun i j=>.bl (decide (j≤i))):=MN fun _ _ _ _ _ _ _ q=>ge_int q
theorem aK (b:Expr) {op:CmpOp} (h:op≠.In:=by decide) (h2:op≠.NotIn:=by decide):behindInMarks op b=false:=by
  have e1:(op==CmpOp.In)=false:=by cases op <;> first | rfl | exact absurd rfl h
  have e2:(op==CmpOp.NotIn)=false:=by cases op <;> first | rfl | exact absurd rfl h2
  cases b <;> simp [behindInMarks,e1,e2]
theorem gm {op:CmpOp} {r:R2} (ho:u0 X (compareOp op) r) (ha:PE X a ta) (hb:PE X b tb) (hm:behindInMarks op b=false):PE X (.Compare a [op] [b] pos) (z_ r ta tb):=by
  intro pins s σ H Q I h
  exact wpAny_Compare1 (Rk ha hb I h fun v u s2 x y H2 I2 rx ry q=>ho pins s2 σ H2 x y v u Q I2 rx ry q) hm
def lO (t:TE):TT:=fun σ H Q=>t σ H fun x H'=>∃ k,x=.bl k∧Q k H'
theorem aG {op:CmpOp} {r:R2} (ho:u0 X (compareOp op) r) (ha:PE X a ta) (hb:PE X b tb) (hm:behindInMarks op b=false):PT X (.Compare a [op] [b] pos) (lO (z_ r ta tb)):=by
  intro pins s σ H Q I h
  refine wpAny_isTrue_Compare1 (cP (ha pins s σ H _ I h) fun v s1 ⟨x,H1,I1,r1,q1⟩=>cP (hb pins s1 σ H1 _ I1 q1) fun u s2 ⟨y,H2,I2,r2,q2⟩ =>
    cP (ho pins s2 σ H2 x y v u _ I2 r1 r2 q2) fun c s3 ⟨z,H3,I3,r3,k,e,q3⟩=>?_) hm
  subst e
  cases r3
  exact wpAny_truthy_bool ⟨H3,I3,q3⟩
def Ah (r r':R2) (ta tb tc:TE):TE:=fun σ H Q=>ta σ H fun x H1=>tb σ H1 fun y H2=>r x y H2 fun z H3=>∃ k,z=.bl k ∧
  (if k=true then tc σ H3 fun w' H4=>r' y w' H4 Q else Q (.bl false) H3)
theorem yQ {op op':CmpOp} {r r':R2} (ho:u0 X (compareOp op) r) (ho':u0 X (compareOp op') r') (ha:PE X a ta) (hb:PE X b tb) (hc:PE X c tc)
    (hm:lastMarks [op,op'] [b,c]=false:=by with_unfolding_all rfl):PE X (.Compare a [op,op'] [b,c] pos) (Ah r r' ta tb tc):=by
  intro pins s σ H Q I h
  refine Compare_chain (cP (ha pins s σ H _ I h) fun v s1 ⟨x,H1,I1,r1,q1⟩=>chain_link (cP (hb pins s1 σ H1 _ I1 q1) fun u s2 ⟨y,H2,I2,r2,q2⟩ =>
    cP (ho pins s2 σ H2 x y v u _ I2 r1 r2 q2) fun d s3 ⟨z,H3,I3,r3,k,e,q3⟩=>?_)) hm
  subst e
  cases r3
  refine wpAny_truthy_bool ?_
  cases k with
  | false=>exact ite_ff ⟨.bl false,H3,I3,rfl,q3⟩
  | true=>exact ite_tt (chain_last (cP (hc pins s3 σ H3 _ I3 q3) fun w' s4 ⟨z',H4,I4,r4,q4⟩=>ho' pins s4 σ H4 y z' u w' Q I4 r2 r4 q4))
theorem oh {op op':CmpOp} {r r':R2} (ho:u0 X (compareOp op) r) (ho':u0 X (compareOp op') r') (ha:PE X a ta) (hb:PE X b tb) (hc:PE X c tc)
    (hm:lastMarks [op,op'] [b,c]=false:=by with_unfolding_all rfl):PT X (.Compare a [op,op'] [b,c] pos) (lO (Ah r r' ta tb tc)):=by
  intro pins s σ H Q I h
  refine isTrue_chain (cP (ha pins s σ H _ I h) fun v s1 ⟨x,H1,I1,r1,q1⟩=>test_link (cP (hb pins s1 σ H1 _ I1 q1) fun u s2 ⟨y,H2,I2,r2,q2⟩ =>
    cP (ho pins s2 σ H2 x y v u _ I2 r1 r2 q2) fun d s3 ⟨z,H3,I3,r3,k,e,q3⟩=>?_)) hm
  subst e
  cases r3
  refine wpAny_truthy_bool ?_
  cases k with
  | false =>
    obtain ⟨k',e',q'⟩:=q3
    cases e'
    exact ite_ff ⟨H3,I3,q'⟩
  | true =>
    refine ite_tt (test_last (cP (hc pins s3 σ H3 _ I3 q3) fun w' s4 ⟨z',H4,I4,r4,q4⟩=>cP (ho' pins s4 σ H4 y z' u w' _ I4 r2 r4 q4) fun d' s5 ⟨z2,H5,I5,r5,k2,e2,q5⟩=>?_))
    subst e2
    cases r5
    exact wpAny_truthy_bool ⟨H5,I5,q5⟩
def Rt (K:PySem.W.Frag) (x:V) (H:Hp) (k:Bool):Prop :=
  match x with
  | .non=>k=false
  | .bl b=>k=b
  | .int i=>k=(i != 0)
  | .str y=>y.length≤sizeLine∧k=((y.length:Int) != 0)
  | .byt y=>y.size≤sizeLine∧k=((y.size:Int) != 0)
  | .ref p=>(∃ xs,bG K H p xs∧k=!xs.isEmpty)∨(∃ xs,dY K H p xs∧k=!xs.isEmpty)∨∃ kvs,H p=some (.dK kvs)∧k=!kvs.isEmpty
  | _=>False
theorem Bx {κ:Type} {kvs:List (κ×V)} {vs:List (κ×Value)} (r:KV kvs vs):(!vs.isEmpty)=!kvs.isEmpty:=by
  cases r <;> rfl
theorem uH {xs:List V} {its:List Value} (r:Vals xs its):(!its.toArray.isEmpty)=!xs.isEmpty:=by
  cases r <;> simp
theorem uz:(sizeLine:Nat) < 2 ^ 63:=by rw [sizeLine_eq]; decide
theorem Qg:UJ X (fun x H Q=>∃ k,Rt X.K x H k∧Q k H):=by
  intro pins s σ H x v Q I rx h
  obtain ⟨k,e,q⟩:=h
  have hl:=uz
  have hs:sizeLine=16777216:=sizeLine_eq
  cases x with
  | non =>
    cases rx
    have e':k=false:=e
    subst e'
    exact truthy_none ⟨H,I,q⟩
  | bl b =>
    cases rx
    have e':k=b:=e
    subst e'
    exact wpAny_truthy_bool ⟨H,I,q⟩
  | int i =>
    obtain ⟨t,rfl⟩:=rx
    have e':k=(i != 0):=e
    subst e'
    exact PySem.P.truthy_int ⟨H,I,q⟩
  | str y =>
    obtain ⟨t,rfl⟩:=rx
    obtain ⟨hy,e'⟩:y.length≤sizeLine∧k=((y.length:Int) != 0):=e
    subst e'
    exact PySem.P.truthy_str (by omega) ⟨H,I.tok _,q⟩
  | byt y =>
    obtain ⟨t,rfl⟩:=rx
    obtain ⟨hy,e'⟩:y.size≤sizeLine∧k=((y.size:Int) != 0):=e
    subst e'
    exact PySem.W.truthy_bytes (by omega) ⟨H,I.tok _,q⟩
  | ref p =>
    cases rx
    have e':(∃ xs,bG X.K H p xs∧k=!xs.isEmpty)∨(∃ xs,dY X.K H p xs∧k=!xs.isEmpty)∨∃ kvs,H p=some (.dK kvs)∧k=!kvs.isEmpty:=e
    rcases e' with ⟨xs,hx,e'⟩ | ⟨xs,hx,e'⟩ | ⟨kvs,hx,e'⟩
    · subst e'
      obtain ⟨its,r,pl,hz⟩:=I.list hx
      have hlen:=r.length
      exact wpAny_truthy_list pl.isList (by simp only [List.size_toArray]; omega) ⟨H,I.tok _,by rw [uH r]; exact q⟩
    · subst e'
      obtain ⟨its,r,pl,hz⟩:=I.tuple hx
      have hlen:=r.length
      exact truthy_tuple pl (by simp only [List.size_toArray]; omega) ⟨H,I.tok _,by rw [uH r]; exact q⟩
    · subst e'
      obtain ⟨hz,hS,vs,r,m⟩:kvs.length≤sizeLine∧(p==sysModules)=false∧∃ vs,KV kvs vs∧s.heap.DictOf (cY X.prog X.w) p vs:=I.hok p _ hx
      have hlen:kvs.length=vs.length:=Paired.length r
      exact wpAny_truthy_dict hS m (by omega) ⟨H,I.tok _,by rw [Bx r]; exact q⟩
  | _=>exact (show False from e).elim
theorem iT (ha:PE X a ta) (he:∀ whole,isTrue a X.env whole=(do let v ← whole; standAt a.pos; holding [v] (truthy v))) :
    PT X a (fun σ H Q=>ta σ H fun x H'=>∃ k,Rt X.K x H' k∧Q k H'):=by
  intro pins s σ H Q I h
  exact isTrue_plain (cP (ha pins s σ H _ I h) fun v s1 ⟨x,H1,I1,r1,q1⟩=>Qg pins s1 σ H1 x v Q I1 r1 q1) (he _)
theorem gK:u0 X (binaryOp .Add) (fun x y H Q=>∃ i j,x=.str i∧y=.str j∧i.length+j.length≤sizeLine∧Q (.str (i++j)) H):=by
  intro pins s σ H x y v u Q I rx ry h
  obtain ⟨i,j,rfl,rfl,hz,q⟩:=h
  obtain ⟨t,rfl⟩:=rx
  obtain ⟨t',rfl⟩:=ry
  exact add_str (fun t' tk=>⟨.str (i++j),H,I.tok _,⟨_,rfl⟩,q⟩) hz
theorem vals1 {x:V} {us:List Value} (r:Vals [x] us):∃ u,us=[u]∧RelV x u:=by
  cases r with
  | cons r1 r2=>cases r2; exact ⟨_,rfl,r1⟩
theorem vals2 {x y:V} {us:List Value} (r:Vals [x,y] us):∃ u w',us=[u,w']∧RelV x u∧RelV y w':=by
  cases r with
  | cons r1 r2 =>
    cases r2 with
    | cons r3 r4=>cases r4; exact ⟨_,_,rfl,r1,r3⟩
theorem Hg (hc:X.calm=true):lY X (.builtin "max") (fun xs H Q=>∃ i j,xs=[.int i,.int j]∧Q (.int (if j > i then j else i)) H):=by
  intro pins s σ H xs us Q I r h
  obtain ⟨i,j,rfl,q⟩:=h
  obtain ⟨u,w',rfl,⟨t,rfl⟩,⟨t',rfl⟩⟩:=vals2 r
  refine max_two_ints (I.ok.hd hc) fun h' tk k=>⟨_,H,I.kept k,?_,q⟩
  by_cases hj:j > i
  · rw [if_pos hj,if_pos hj]; exact ⟨_,rfl⟩
  · rw [if_neg hj,if_neg hj]; exact ⟨_,rfl⟩
theorem fU:lY X (.type "str") (fun xs H Q=>∃ i,xs=[.int i]∧i.natAbs.log2 < 1920∧Q (.str (toString i)) H):=by
  intro pins s σ H xs us Q I r h
  obtain ⟨i,rfl,hz,q⟩:=h
  obtain ⟨u,rfl,t,rfl⟩:=vals1 r
  exact PySem.P.str_of_int hz ⟨.str _,H,I.tok _,⟨_,rfl⟩,q⟩
end
end L2
namespace L2
open PySem PySem.Spec PyProof.Rows
structure Cj (h:Heap) (x dx C:Addr) (mA:Str→Option Value):Prop where
  obj:h.get? x=some (PySem.W.instObj C dx)
  ns:h.Ns1 dx mA
  ne:dx≠x
theorem v9 {h:Heap} {dx:Addr} {mA:Str→Option Value} (n:h.Ns1 dx mA):∃ od,h.get? dx=some od∧∀ name,PySem.W.lookIn name od=some (mA name):=by
  obtain ⟨o,es,ep,ho,hd,hk,_,hm⟩:=n
  refine ⟨o,ho,fun name=>?_⟩
  have e:=hm name
  unfold nsFind findBy at e
  rw [← Array.find?_toList] at e
  unfold PySem.W.lookIn
  rw [hd]
  dsimp only
  split
  · rename_i y q
    rw [q] at e
    exact congrArg some e
  · rename_i q
    rw [q] at e
    have a:es.toList.any (·.refKey)=false:=by
      rw [List.any_eq_false]
      intro y hy
      obtain ⟨z,t,hkey⟩:=hk y (Array.mem_toList_iff.mp hy)
      simp [DictEntry.refKey,hkey]
    have a':¬ es.toList.any (·.refKey)=true:=by rw [a]; exact Bool.false_ne_true
    rw [if_neg a']
    exact congrArg some e
theorem Cj.look {h:Heap} {x dx C:Addr} {mA:Str→Option Value} (I:Cj h x dx C mA):∃ od,PySem.W.InstAt h x (PySem.W.instObj C dx) C (some od)∧∀ name,PySem.W.lookIn name od=some (mA name) :=
  let ⟨od,ho,hl⟩:=v9 I.ns
  ⟨od,⟨I.obj,rfl,rfl,ho⟩,hl⟩
section
variable {prog:Program} {w:World} {A:Around} {E:Value→Shared→Prop} {s:Shared} {K:PySem.W.Frag} {x dx C f:Addr} {mA:Str→Option Value} {name:Str} {v:Value}
theorem N6 {expr:Bool} {Q:Value→Shared→Prop} (X:K.In s.heap) (I:Cj s.heap x dx C mA) (hg:PySem.W.plainGet K C name=true) (hh:PySem.W.hasDictIn K C=true)
    (ha:PySem.W.findIn K (.ref C) name=some none) (hv:mA name=some v) (hv':PySem.W.handedIn v=true) (h:Q v { s with toks:=s.toks+1 }) :
    wpAny (model prog w) A (getAttr (.ref x) name expr) Q E s:=by
  obtain ⟨od,J,hl⟩:=I.look
  exact PySem.W.get_value X J (PySem.W.plainGet_of hg).1 (PySem.W.findObj_own hh ha rfl (by rw [hl,hv])) hv' h
theorem Ko {pl:Sem Bool} {Q:Value×List Value→Shared→Prop} (X:K.In s.heap) (I:Cj s.heap x dx C mA) (hg:PySem.W.plainGet K C name=true)
    (hf:PySem.W.findIn K (.ref C) name=some (some (.ref f))) (ht:PySem.W.isFn K (.ref f)=true) (hv:mA name=none) (h:Q (.ref f,[.ref x]) s) :
    wpAny (model prog w) A (getMethod (.ref x) name pl) Q E s:=by
  obtain ⟨od,J,hl⟩:=I.look
  exact PySem.W.method_fn X J (PySem.W.plainGet_of hg).1 (PySem.W.plainGet_of hg).2 hf (beq_iff_eq.mp ht) (by show (PySem.W.lookIn name od).map (·.isSome)=some false; rw [hl,hv]; rfl) h
theorem LQ {ns:List Str} {Q:Unit→Shared→Prop} (X:K.In s.heap) (I:Cj s.heap x dx C mA)
    (hs:PySem.W.findIn K (.ref C) "__setattr__"=some (some (.builtin "object.__setattr__"))) (hp:PySem.W.plainOver K C=true) (ht:PySem.W.takerIn K C name=some none) (hh:PySem.W.hasDictIn K C=true)
    (hw:PySem.Within mA ns) (hsz:ns.length≤sizeLine)
    (h:∀ h',Cj h' x dx C (fun y=>if y=name then some v else mA y)→Heap.SameBut dx s.heap h'→Q () { s with heap:=h',toks:=s.toks+2 }) :
    wpAny (model prog w) A (setAttr (.ref x) name v) Q E s:=by
  obtain ⟨od,J,hl⟩:=I.look
  refine PySem.W.set_plain X J hs (PySem.W.osa_open (s:={ s with toks:=s.toks+1 }) (r:=none) X J hp ht fun b=>?_)
  obtain ⟨cd,hc,hd'⟩:=PySem.W.any_some hh
  have hx:s.heap.get? x=some ⟨.ref C,some dx,.plain,#[]⟩:=I.obj
  refine wpAny_bind (wpAny_pure (wpAny_bind (wpAny_bind (wpAny_loadPart hx (wpAny_bind (PySem.W.Looks.here (s:={ s with toks:=s.toks+1 }) (PySem.W.looks_clsIn X hc) ?_))))))
  rw [hd']
  refine wpAny_pure (a:=some dx) (wpAny_bind (wpAny_pure (wpAny_bind ?_)))
  refine wpAny_nsSet1 (s:={ s with toks:=s.toks+1 }) I.ns fun h' hn2 hs2=>?_
  obtain ⟨oD,esD,epD,hoD,hdD,hcD⟩:=hn2.count (PySem.Within.cons name v hw)
  refine wpAny_bind (wpAny_lookBehind hoD (by rw [hdD]; exact pastItsLine_dict (Nat.le_trans hcD (by rw [List.length_cons]; omega))) ?_)
  exact wpAny_pure (h _ ⟨(hs2.2 _ (Ne.symm I.ne)).trans I.obj,hn2,I.ne⟩ hs2)
theorem J1 {R:Result→Shared→Prop} {vs:List Value} {kw:List (Str×Value)} (X:K.In s.heap) (hm:PySem.W.makesIn K C=true)
    (hi:PySem.W.findIn K (.ref C) "__init__"=some (some (.ref f))) (hf:PySem.W.typeIn K (.ref f)=some (.type "function"))
    (h:codeAny (model prog w) (A.under (.builtin "type.__call__" ⟨.ref C :: vs,kw⟩)) (.call (.ref f) ⟨.ref (s.heap.objs.size+1) :: vs,kw⟩) (PySem.W.InitBack (s.heap.objs.size+1) R)
      { s with heap:=(s.heap.push PySem.W.emptyDict).push (PySem.W.instObj C s.heap.objs.size) }) :
    codeAny (model prog w) A (.call (.ref C) ⟨vs,kw⟩) R s:=by
  obtain ⟨hh,g,d,t,os⟩:=s
  exact PySem.W.make_core (PySem.W.makes_of X hm) (PySem.W.looks_findIn X hi) (fun self=>PySem.W.bind_fn X self hf) (.inl rfl) h
end
def gq (f:Str) (v:V):List (Str×V)→List (Str×V)
  | []=>[(f,v)]
  | (g,x) :: r=>if g=f then (g,v) :: r else (g,x) :: gq f v r
theorem qX (f g:Str) (v:V):∀ fs:List (Str×V),(gq f v fs).lookup g=if g=f then some v else fs.lookup g
  | []=>by
    show List.lookup g [(f,v)]=_
    by_cases h:g=f
    · have hb:(g==f)=true:=beq_iff_eq.mpr h
      simp only [List.lookup,hb,if_pos h]
    · have hb:(g==f)=false:=beq_eq_false_iff_ne.mpr h
      simp only [List.lookup,hb,if_neg h]
  | (k,x) :: r=>by
    have ih:=qX f g v r
    rw [show gq f v ((k,x) :: r)=(if k=f then (k,v) :: r else (k,x) :: gq f v r) from rfl]
    by_cases hk:k=f
    · rw [if_pos hk]
      by_cases h:g=k
      · have hb:(g==k)=true:=beq_iff_eq.mpr h
        simp only [List.lookup,hb,if_pos (h.trans hk)]
      · have hb:(g==k)=false:=beq_eq_false_iff_ne.mpr h
        simp only [List.lookup,hb,if_neg (fun e:g=f=>h (e.trans hk.symm))]
    · rw [if_neg hk]
      by_cases h:g=k
      · have hb:(g==k)=true:=beq_iff_eq.mpr h
        simp only [List.lookup,hb,if_neg (fun e:g=f=>hk (h.symm.trans e))]
      · have hb:(g==k)=false:=beq_eq_false_iff_ne.mpr h
        simp only [List.lookup,hb]
        exact ih
theorem qd (f:Str) (v:V):∀ fs:List (Str×V),f∈(gq f v fs).map (·.1)∧∀ g,g∈fs.map (·.1)→g∈(gq f v fs).map (·.1)
  | []=>⟨by simp [gq],fun g h=>by simp at h⟩
  | (k,x) :: r=>by
    obtain ⟨i1,i2⟩:=qd f v r
    rw [show gq f v ((k,x) :: r)=(if k=f then (k,v) :: r else (k,x) :: gq f v r) from rfl]
    by_cases hk:k=f
    · rw [if_pos hk]
      subst hk
      exact ⟨by simp,fun g h=>by simpa using h⟩
    · rw [if_neg hk]
      refine ⟨?_,fun g h=>?_⟩
      · rw [List.map_cons]
        exact List.mem_cons_of_mem _ i1
      · rw [List.map_cons] at h ⊢
        rcases List.mem_cons.mp h with e | e
        · exact List.mem_cons.mpr (.inl e)
        · exact List.mem_cons_of_mem _ (i2 g e)
theorem qY (f:Str) (v:V):∀ fs:List (Str×V),(gq f v fs).length≤fs.length+1
  | []=>by simp [gq]
  | (k,x) :: r=>by
    have ih:=qY f v r
    rw [show gq f v ((k,x) :: r)=(if k=f then (k,v) :: r else (k,x) :: gq f v r) from rfl]
    by_cases hk:k=f
    · rw [if_pos hk,List.length_cons,List.length_cons]; omega
    · rw [if_neg hk,List.length_cons,List.length_cons]; omega
theorem mV.some_of {v:V} {o:Option Value} (r:mV (some v) o):∃ u,o=some u∧RelV v u:=by
  cases o with
  | none=>exact (show False from r).elim
  | some u=>exact ⟨u,rfl,r⟩
theorem mV.none_of {o:Option Value} (r:mV none o):o=none:=by
  cases o with
  | none=>rfl
  | some u=>exact (show False from r).elim
theorem Gz {v:V} {u:Value} (r:RelV v u):PySem.W.handedIn u=true:=by
  cases v with
  | non=>cases (show u=Value.none from r); rfl
  | bl b=>cases (show u=Value.bool b from r); rfl
  | int i=>obtain ⟨t,e⟩:=(show ∃ t,u=Value.int i t from r); cases e; rfl
  | str x=>obtain ⟨t,e⟩:=(show ∃ t,u=Value.str x t from r); cases e; rfl
  | byt b=>obtain ⟨t,e⟩:=(show ∃ t,u=Value.bytes b t from r); cases e; rfl
  | flt b=>obtain ⟨t,e⟩:=(show ∃ t,u=Value.float b t from r); cases e; rfl
  | ref a=>cases (show u=Value.ref a from r); rfl
  | ty n=>cases (show u=Value.type n from r); rfl
section
variable {P:Program} {w:World} {H H':Hp} {h h':Heap} {a C dx:Addr} {fs fs':List (Str×V)}
theorem xO (hok:lN P w H h) (e:H a=some (.ins C dx fs)):∃ mA,Cj h a dx C mA∧(∀ f,mV (fs.lookup f) (mA f))∧PySem.Within mA (fs.map (·.1))∧fs.length≤1000∧H dx=some (.own a):=by
  obtain ⟨d,z,ne,ob,mA,n,r,q⟩:=(show cX P w H h a (.ins C dx fs) from hok a _ e)
  exact ⟨mA,⟨ob,n,ne⟩,r,q,z,d⟩
end
structure Ed (K:PySem.W.Frag) (C:Addr):Prop where
  pg:PySem.W.plainGet K C Str.empty=true
  hd:PySem.W.hasDictIn K C=true
  po:PySem.W.plainOver K C=true
  sa:PySem.W.findIn K (.ref C) "__setattr__"=some (some (.builtin "object.__setattr__"))
theorem Ed.get {K:PySem.W.Frag} {C:Addr} (c:Ed K C) (f:Str):PySem.W.plainGet K C f=true:=c.pg
def aX (K:PySem.W.Frag) (C:Addr) (f:Str):Prop:=PySem.W.findIn K (.ref C) f=some none
theorem aX.taker {K:PySem.W.Frag} {C:Addr} {f:Str} (n:aX K C f):PySem.W.takerIn K C f=some none:=by
  unfold PySem.W.takerIn
  rw [show PySem.W.findIn K (.ref C) f=some none from n]
  rfl
structure Meth (K:PySem.W.Frag) (C:Addr) (m:Str) (f:Addr):Prop where
  at_:PySem.W.findIn K (.ref C) m=some (some (.ref f))
  fn:PySem.W.isFn K (.ref f)=true
  kp:PySem.W.keepIn K (.ref f)=true
section
variable {X:Cx} {pins:List (Addr×Obj)} {σ:St} {H:Hp} {s:Shared} {a C dx:Addr} {fs:List (Str×V)} {f:Str} {v:V} {A:Around} {E:Value→Shared→Prop}
theorem uK {b:Bool} {Q:Value→Shared→Prop} (I:Inv X pins σ H s) (e:H a=some (.ins C dx fs)) (c:Ed X.K C) (n:aX X.K C f) (l:fs.lookup f=some v)
    (h:∀ u s',Inv X pins σ H s'→RelV v u→Q u s'):wpAny (model X.prog X.w) A (getAttr (.ref a) f b) Q E s:=by
  obtain ⟨mA,O,r,_,_,_⟩:=xO I.hok e
  obtain ⟨u,hu,ru⟩:=mV.some_of (v:=v) (o:=mA f) (by rw [← l]; exact r f)
  exact N6 I.mD O (c.get f) c.hd n hu (Gz ru) (h u _ (I.tok _) ru)
theorem uJ {m:Str} {g:Addr} {pl:Sem Bool} {Q:Value×List Value→Shared→Prop} (I:Inv X pins σ H s) (e:H a=some (.ins C dx fs)) (c:Ed X.K C) (k:Meth X.K C m g) (l:fs.lookup m=none)
    (h:Q (.ref g,[.ref a]) s):wpAny (model X.prog X.w) A (getMethod (.ref a) m pl) Q E s:=by
  obtain ⟨mA,O,r,_,_,_⟩:=xO I.hok e
  have hn:mA m=none:=mV.none_of (by rw [← l]; exact r m)
  exact Ko I.mD O (c.get m) k.at_ k.fn hn h
theorem tW {y:V} {u:Value} {Q:Unit→Shared→Prop} (I:Inv X pins σ H s) (e:H a=some (.ins C dx fs)) (c:Ed X.K C) (n:aX X.K C f) (hl:fs.length < 1000) (ry:RelV y u)
    (h:∀ s',Inv X pins σ (upd H a (.ins C dx (gq f y fs))) s'→Q () s'):wpAny (model X.prog X.w) A (setAttr (.ref a) f u) Q E s:=by
  obtain ⟨mA,O,r,wi,_,ho⟩:=xO I.hok e
  have hz:(fs.map (·.1)).length≤sizeLine:=by rw [List.length_map,sizeLine_eq]; omega
  refine LQ I.mD O c.sa c.po n.taker c.hd wi hz fun h' O' sb=>h _ ?_
  have hd:∃ o,h'.get? dx=some o:=let ⟨o,_,_,e',_⟩:=O'.ns; ⟨o,e'⟩
  refine I.write (x:=a) (e:=dx) (by rw [e]; exact True.intro) (.inr ho) (fun b q hb z=>(sb.2 b hb).trans z) hd ?_
  refine ⟨by rw [au O.ne]; exact ho,?_,O.ne,O'.obj,_,O'.ns,fun g=>?_,fun g hg=>?_⟩
  · have:=qY f y fs; omega
  · show mV ((gq f y fs).lookup g) (if g=f then some u else mA g)
    rw [qX]
    by_cases q:g=f
    · rw [if_pos q,if_pos q]; exact ry
    · rw [if_neg q,if_neg q]; exact r g
  · by_cases q:g=f
    · rw [q]; exact (qd f y fs).1
    · refine (qd f y fs).2 g (wi g fun z=>hg ?_)
      show (if g=f then some u else mA g)=none
      rw [if_neg q]; exact z
theorem Inv.made (I:Inv X pins σ H s):Inv X pins σ (upd (upd H s.heap.objs.size (.own (s.heap.objs.size+1))) (s.heap.objs.size+1) (.ins C s.heap.objs.size []))
    { s with heap:=(s.heap.push PySem.W.emptyDict).push (PySem.W.instObj C s.heap.objs.size) }:=by
  have e1:(s.heap.push PySem.W.emptyDict).get? s.heap.objs.size=some PySem.W.emptyDict:=Heap.get?_push_size s.heap rfl
  have e2:((s.heap.push PySem.W.emptyDict).push (PySem.W.instObj C s.heap.objs.size)).get? (s.heap.objs.size+1)=some (PySem.W.instObj C s.heap.objs.size):=by
    have:=Heap.get?_push_size (s.heap.push PySem.W.emptyDict) (o:=PySem.W.instObj C s.heap.objs.size) rfl
    rwa [Heap.size_push] at this
  have e3:(s.heap.push PySem.W.emptyDict).Ns s.heap.objs.size (fun _=>none):=⟨PySem.W.emptyDict,#[],_,e1,rfl,(fun e he=>absurd he (by simp)),fun _=>rfl⟩
  have I1:=I.laid (a:=s.heap.objs.size) (o:=.own (s.heap.objs.size+1)) (h':=s.heap.push PySem.W.emptyDict) (t':=s.toks) (fun b u q=>Heap.get?_push_of_some _ q) (Nat.le_refl _) ⟨_,e1⟩
  refine I1.laid (a:=s.heap.objs.size+1) (o:=.ins C s.heap.objs.size []) (t':=s.toks) (fun b u q=>Heap.get?_push_of_some _ q) (Nat.le_of_eq (Heap.size_push _ _)) ?_
  have ne:s.heap.objs.size≠s.heap.objs.size+1:=Nat.ne_of_lt (Nat.lt_succ_self _)
  refine ⟨by rw [au ne,ak],Nat.zero_le _,ne,e2,fun _=>none,(Heap.Ns1.of_empty e3).at fun o q=>Heap.get?_push_of_some _ q,fun _=>True.intro,fun y hy=>absurd rfl hy⟩
theorem D_ {prog:Program} {w:World} {env:Env} {e:Expr} {f:Str} {pos:Pos} {s:Shared} {Q:Value→Shared→Prop} (hb:attributeBase e f env (eval e env)=eval e env)
    (h:wpAny (model prog w) A (eval e env) (fun o s₁=>wpAny (model prog w) A (getAttr o f true) Q E s₁) E s):wpAny (model prog w) A (eval (.Attribute e f pos) env) Q E s :=
  Attribute_any_ h (by rw [arm_eval_Attribute,hb])
end
def m5 (K:PySem.W.Frag) (ta:TE) (f:Str):TE:=fun σ H Q=>ta σ H fun x H1=>∃ a C dx fs v,x=.ref a∧H1 a=some (.ins C dx fs)∧Ed K C∧aX K C f∧fs.lookup f=some v∧Q v H1
def T7 (K:PySem.W.Frag) (ta tv:TE) (f:Str):TS:=fun D σ H=>tv σ H fun y H1=>ta σ H1 fun x H2=>∃ a C dx fs,x=.ref a∧H2 a=some (.ins C dx fs)∧Ed K C∧aX K C f∧fs.length < 1000 ∧
  D.nx σ (upd H2 a (.ins C dx (gq f y fs)))
def Te (X:Cx) (op:Operator) (rd:V→V→Hp→VK→Prop):Prop :=
  ∀ (pins:List (Addr×Obj)) (s:Shared) (σ:St) (H:Hp) (x y:V) (u v:Value) (Q:VK),Inv X pins σ H s→RelV x u→RelV y v→rd x y H Q→wpAny (model X.prog X.w) X.A (inplaceOp op u v) (EP X pins σ Q) X.xe s
def Ml (K:PySem.W.Frag) (ta tv:TE) (rd:V→V→Hp→VK→Prop) (f:Str):TS:=fun D σ H=>ta σ H fun x H1=>∃ a C dx fs v,x=.ref a∧H1 a=some (.ins C dx fs)∧Ed K C∧aX K C f∧fs.lookup f=some v ∧
  tv σ H1 fun y H2=>rd v y H2 fun z H3=>∃ dx' fs',H3 a=some (.ins C dx' fs')∧fs'.length < 1000∧D.nx σ (upd H3 a (.ins C dx' (gq f z fs')))
section
variable {X:Cx} {o e value:Expr} {f:Str} {pos pos' tpos:Pos} {ta tv:TE}
theorem aF (he:PE X e ta) (hb:attributeBase e f X.env (eval e X.env)=eval e X.env):PE X (.Attribute e f pos) (m5 X.K ta f):=by
  intro pins s σ H Q I h
  refine D_ hb (cP (he pins s σ H _ I h) fun u s1 ⟨x,H1,I1,rx,a,C,dx,fs,v,ex,ea,c,n,l,q⟩=>?_)
  subst ex
  obtain rfl:u=Value.ref a:=rx
  exact uK I1 ea c n l fun u' s2 I2 ru=>⟨v,H1,I2,ru,q⟩
theorem eE (ha:PE X o ta) (hv:PE X value tv) (hs:swapsWith value (some (.Attribute o f pos')) pos.line X.env=pure false):PS X (.Assign [.Attribute o f pos'] value pos) (T7 X.K ta tv f):=by
  intro pins s σ H D I h
  refine plainObj_wpAny_Assign_Attribute (cP (hv pins s σ H _ I h) fun u s1 ⟨y,H1,I1,ry,q⟩=>cP (ha pins s1 σ H1 _ I1 q) fun ov s2 ⟨x,H2,I2,rx,a,C,dx,fs,ex,ea,c,n,l,q2⟩=>?_) hs
  subst ex
  obtain rfl:ov=Value.ref a:=rx
  exact tW I2 ea c n l ry fun s3 I3=>⟨σ,_,I3,q2⟩
theorem pP {op:Operator} {rd:V→V→Hp→VK→Prop} (ha:PE X o ta) (hv:PE X value tv) (hop:Te X op rd):PS X (.AugAssign (.Attribute o f tpos) op value pos) (Ml X.K ta tv rd f):=by
  intro pins s σ H D I h
  refine wpAny_AugAssign_AttributeAny (cP (ha pins s σ H _ I h) fun ov s1 ⟨x,H1,I1,rx,a,C,dx,fs,v,ex,ea,c,n,l,q⟩=>?_)
  subst ex
  obtain rfl:ov=Value.ref a:=rx
  refine uK I1 ea c n l fun u s2 I2 ru=>cP (hv pins s2 σ H1 _ I2 q) fun w3 s3 ⟨y,H2,I3,ry,q3⟩=>cP (hop pins s3 σ H2 v y u w3 _ I3 ru ry q3) fun w4 s4 ⟨z,H3,I4,rz,dx',fs',ea',l',q4⟩=>?_
  exact tW I4 ea' c n l' rz fun s5 I5=>⟨σ,_,I5,q4⟩
def Ud:V→V→Hp→VK→Prop:=fun x y H Q=>∃ i j,x=.int i∧y=.int j∧Q (.int (i+j)) H
theorem BK:Te X .Add Ud:=by
  rintro pins s σ H x y u v Q I rx ry ⟨i,j,rfl,rfl,q⟩
  obtain ⟨t,rfl⟩:=(show ∃ t,u=Value.int i t from rx)
  obtain ⟨t',rfl⟩:=(show ∃ t',v=Value.int j t' from ry)
  exact PyProof.Rows.iadd_int ⟨.int (i+j),H,I.tok _,⟨_,rfl⟩,q⟩
end
section
variable {X:Cx} {pins:List (Addr×Obj)} {σ:St} {H:Hp} {s:Shared} {A:Around} {E:Value→Shared→Prop} {Q:Value→Shared→Prop} {c:Value} {b:Bool}
end
end L2
namespace L2
open PySem PySem.Spec PyProof.Rows
structure bH (k:Nat) (A:Around):Prop where
  hd:A.handled=none
  dp:A.depth+3 * k+5 < recursionLimit
  un:A.units+16 * k+200 < cLine
theorem bH.mono {j k:Nat} {A:Around} (r:bH k A) (h:j≤k):bH j A:=⟨r.hd,by have:=r.dp; omega,by have:=r.un; omega⟩
theorem bH.deeper {k:Nat} {A:Around} (r:bH (k+1) A) (env:Env):bH k (A.deeper env) :=
  ⟨r.hd,by have:=r.dp; show A.depth+1+3 * k+5 < _; omega,by have:=r.un; show A.units+3+16 * k+200 < _; omega⟩
theorem Bt {A:Around} {C:Addr} {us:List Value} {kw:List (Str×Value)}:(A.under (.builtin "type.__call__" ⟨.ref C :: us,kw⟩)).depth=A.depth+1:=by
  first | rfl | simp [Around.under,Code.weight,Code.isCreation,Code.isGuard,Code.isCaller,Code.frames,Code.isFrame,guardIds]
theorem Bs {A:Around} {C:Addr} {us:List Value} {kw:List (Str×Value)}:(A.under (.builtin "type.__call__" ⟨.ref C :: us,kw⟩)).units=A.units+1:=by
  first | rfl | simp [Around.under,Code.cUnits,Code.frames,Code.isFrame]
theorem bH.make {k:Nat} {A:Around} (r:bH (k+1) A) (C:Addr) (us:List Value) (kw:List (Str×Value)):bH k (A.under (.builtin "type.__call__" ⟨.ref C :: us,kw⟩)) :=
  ⟨r.hd,by have:=r.dp; rw [Bt]; omega,by have:=r.un; rw [Bs]; omega⟩
theorem bH.depth {k:Nat} {A:Around} (r:bH k A):A.depth < recursionLimit:=by have:=r.dp; omega
theorem bH.units {k:Nat} {A:Around} (r:bH k A):A.units+64 < cLine:=by have:=r.un; omega
def cU:TA:=fun _ H Q=>Q [] H
def aU (ta:TE) (tr:TA):TA:=fun σ H Q=>ta σ H fun x H1=>tr σ H1 fun xs H2=>Q (x :: xs) H2
section
variable {X:Cx} {e:Expr} {es:List Expr} {te:TE} {t:TA} {pos:Pos}
theorem aq:PA X [] cU:=fun _ _ _ _ H Q I h=>Calls.spliced_nil ⟨[],H,I,.nil,h⟩
theorem aa (ha:PE X e te) (hr:PA X es t) (hs:starEach (e :: es) X.env=(false,eval e X.env) :: starEach es X.env:=by rfl):PA X (e :: es) (aU te t):=by
  intro pos pins s σ H Q I h
  rw [hs]
  show wpAny _ _ (spliced ((false,eval e X.env) :: backTo pos (starEach es X.env))) _ _ s
  refine Calls.spliced_cons (cP (ha pins s σ H _ I h) fun u s1 ⟨x,H1,I1,r1,q1⟩=>?_)
  exact cP (hr pos pins s1 σ H1 _ I1 q1) fun us s2 ⟨xs,H2,I2,r2,q2⟩=>⟨x :: xs,H2,I2,.cons r1 r2,q2⟩
def HY (t:TA):TE:=fun σ H Q=>t σ H fun xs H1=>xs.length≤sizeLine∧∀ p,H1 p=none→Q (.ref p) (upd H1 p (.tup xs))
def gw (t:TA):TE:=fun σ H Q=>t σ H fun xs H1=>xs.length≤sizeLine∧∀ p,H1 p=none→Q (.ref p) (upd H1 p (.lst xs))
theorem eF {x1} (h:PA X es t):PE X (.Tuple es x1 pos) (HY t):=by
  intro pins s σ H Q I hq
  refine wpAny_Tuple_spliced (cP (h pos pins s σ H _ I hq) fun us s1 ⟨xs,H1,I1,r,z,q⟩=>⟨by rw [← r.length]; exact z,?_⟩)
  have hf:H1 s1.heap.objs.size=none:=I1.hok.fresh (Nat.le_refl _)
  refine ⟨.ref s1.heap.objs.size,upd H1 s1.heap.objs.size (.tup xs),I1.laid (t':=s1.toks) (fun b u e=>Heap.get?_push_of_some _ e) (Nat.le_refl _) ?_,rfl,q _ hf⟩
  exact ⟨z,us,r,⟨_,Heap.get?_push_size _ rfl,rfl,_,rfl⟩⟩
theorem bW (h:PA X es t):PE X (.List es pos) (gw t):=by
  intro pins s σ H Q I hq
  refine wpAny_List_spliced (cP (h pos pins s σ H _ I hq) fun us s1 ⟨xs,H1,I1,r,z,q⟩=>⟨by rw [← r.length]; exact z,?_⟩)
  have hf:H1 s1.heap.objs.size=none:=I1.hok.fresh (Nat.le_refl _)
  refine ⟨.ref s1.heap.objs.size,upd H1 s1.heap.objs.size (.lst xs),I1.laid (t':=s1.toks) (fun b u e=>Heap.get?_push_of_some _ e) (Nat.le_refl _) ?_,rfl,q _ hf⟩
  exact ⟨z,us,0,r,Heap.get?_push_size _ rfl⟩
end
abbrev Sp:=List V→Hp→VK→XK→Prop
abbrev Ef:=List Env→Hp→Shared→XK→Value→Shared→Prop
structure Cm (P:Program) (w:World) (K:PySem.W.Frag) (mg:Str→Option Value) (base:Heap) (A:Around) (outer:List Env) (s:Shared) (H:Hp):Prop where
  frames:A.frames=some outer
  mod:Mod K mg base
  bs:∀ b o,base.get? b=some o→s.heap.get? b=some o∧H b=none
  bsz:base.objs.size≤s.heap.objs.size
  oR:s.heap.FunFrames base outer
  frf:∀ b∈frs outer,H b=none
  hok:lN P w H s.heap
  bare:AllBare s.gens
def CE (outer:List Env) (P:Program) (w:World) (H:Hp) (s:Shared) (Q:VK) (u:Value) (s':Shared):Prop :=
  ∃ v H',s'.os=s.os∧AllBare s'.gens∧Un (frs outer) [] H H' s.heap s'.heap∧lN P w H' s'.heap∧RelV v u∧Q v H'
def CR (CX:Ef) (outer:List Env) (P:Program) (w:World) (H:Hp) (s:Shared) (Q:VK) (E:XK) (r:Result) (s':Shared):Prop :=
  match r with
  | .ok (.ret u)=>CE outer P w H s Q u s'
  | .ok _=>False
  | .error e=>CX outer H s E e s'
structure aL (P:Program) (w:World) (K:PySem.W.Frag) (mg:Str→Option Value) (base:Heap) (CX:Ef) (k:Nat) (f:Addr) (fd:FuncData) (ps:List Str) (sp:Sp):Prop where
  len:∀ vs H Q E,sp vs H Q E→vs.length=ps.length
  run:∀ (A:Around) (outer:List Env) (s:Shared) (H:Hp) (args:Args) (us:List Value) (vs:List V) (Q:VK) (E:XK),bH k A→Cm P w K mg base A outer s H→BindsTo s fd args (ps.zip us)→Vals vs us→sp vs H Q E →
    codeAny (model P w) A (.call (.ref f) args) (CR CX outer P w H s Q E) s
theorem Cm.make {P:Program} {w:World} {K:PySem.W.Frag} {mg:Str→Option Value} {base:Heap} {A:Around} {outer:List Env} {s:Shared} {H:Hp} (e:Cm P w K mg base A outer s H) (C:Addr) (us:List Value) (kw:List (Str×Value)) :
    Cm P w K mg base (A.under (.builtin "type.__call__" ⟨.ref C :: us,kw⟩)) outer s H:=⟨by first | exact e.frames | (simpa [Around.under,Code.envs,Code.isFrame,pushEnvs] using e.frames),e.mod,e.bs,e.bsz,e.oR,e.frf,e.hok,e.bare⟩
section
variable {X:Cx} {pins:List (Addr×Obj)} {σ:St} {H:Hp} {s s':Shared}
theorem Inv.env0 (I:Inv X pins σ H s):Cm X.prog X.w X.K X.mg X.base X.A X.stack s H :=
  ⟨I.ok.frames,I.ok.mod,I.bs,Nat.le_trans I.ok.bsz I.sz,I.stack,I.ni,I.hok,I.bare⟩
theorem Inv.after {Q:VK} {u:Value} (I:Inv X pins σ H s) (h:CE X.stack X.prog X.w H s Q u s'):EP X pins σ Q u s':=by
  obtain ⟨v,H',os,bare,un,hok,r,q⟩:=h
  obtain ⟨hh,g,d,t,os'⟩:=s'
  obtain rfl:os'=s.os:=os
  exact ⟨v,H',I.call (h':=hh) (g':=g) (d':=d) (t':=t) (ch:=[]) un hok bare (fun b z=>absurd z (by simp)),r,q⟩
end
def jL (sp:Sp) (dvs:List V) (E:XK) (t:TA):TE:=fun σ H Q=>t σ H fun vs H1=>sp (vs++dvs) H1 Q E
def jK (C:Addr) (m:Str) (sp:Sp) (dvs:List V) (E:XK) (ta:TE) (t:TA):TE:=fun σ H Q=>ta σ H fun x H1=>∃ a dx fs,x=.ref a∧H1 a=some (.ins C dx fs)∧fs.lookup m=none ∧
  t σ H1 fun vs H2=>sp (x :: (vs++dvs)) H2 Q E
def RV (C:Addr) (sp:Sp) (dvs:List V) (E:XK) (t:TA):TE:=fun σ H Q=>t σ H fun vs H1=>∀ x dx,H1 x=none→H1 dx=none→dx≠x →
  sp (.ref x :: (vs++dvs)) (upd (upd H1 dx (.own x)) x (.ins C dx [])) (fun v H2=>v=.non∧Q (.ref x) H2) E
def Binds (K:PySem.W.Frag) (fd:FuncData) (ps:List Str) (ds:List Value):Prop :=
  ∀ (s:Shared) (us:List Value),K.In s.heap→(us++ds).length=ps.length→BindsTo s fd ⟨us,[]⟩ (ps.zip (us++ds))
theorem Binds.all {K:PySem.W.Frag} {fd:FuncData} {ps:List Str} (h:∀ us:List Value,us.length=ps.length→bindArgs fd ⟨us,[]⟩=pure (ps.zip us)):Binds K fd ps []:=fun s us _ hl=>by
  rw [List.append_nil] at hl ⊢
  exact .of_eq (h us hl)
def iM (CX:Ef) (X:Cx) (E:XK):Prop:=∀ (pins:List (Addr×Obj)) (σ:St) (H:Hp) (s:Shared) (e:Value) (s':Shared),Inv X pins σ H s→CX X.stack H s E e s'→X.xe e s'
section
variable {X:Cx} {CX:Ef} {k:Nat} {f C:Addr} {fd:FuncData} {ps:List Str} {sp:Sp} {dvs:List V} {ds:List Value} {E:XK} {x m:Str} {p pos apos:Pos} {e o:Expr} {es:List Expr} {ta:TE} {t:TA}
theorem w6 {pins:List (Addr×Obj)} {σ:St} {H:Hp} {s:Shared} {Q:VK} {us:List Value} {vs:List V} (F:aL X.prog X.w X.K X.mg X.base CX k f fd ps sp) (hr:bH k X.A) (hb:Binds X.K fd ps ds) (hd:Vals dvs ds) (hx:iM CX X E)
    (I:Inv X pins σ H s) (r:Vals vs us) (h:sp (vs++dvs) H Q E):wpAny (model X.prog X.w) X.A (call (.ref f) us) (EP X pins σ Q) X.xe s:=by
  have r2:Vals (vs++dvs) (us++ds):=r.append hd
  have hl:(us++ds).length=ps.length:=by rw [← r2.length]; exact F.len _ _ _ _ h
  refine wpAny_call (codeAny_mono (F.run X.A X.stack s H ⟨us,[]⟩ (us++ds) (vs++dvs) Q E hr I.env0 (hb s us I.mD hl) r2 h) fun r s' hq=>?_)
  cases r with
  | error e=>exact hx pins σ H s e s' I hq
  | ok fl =>
    cases fl with
    | ret u=>exact I.after hq
    | next=>exact False.elim hq
    | brk=>exact False.elim hq
    | cont=>exact False.elim hq
theorem aQ (F:aL X.prog X.w X.K X.mg X.base CX k f fd ps sp) (hr:bH k X.A) (hg:Gl X x) (hm:X.mg x=some (.ref f)) (hk:PySem.W.keepIn X.K (.ref f)=true) (hb:Binds X.K fd ps ds) (hd:Vals dvs ds) (hx:iM CX X E)
    (ha:PA X (e :: es) t) (hdb:(x==("__debug__" : Str))=false:=by decide) (he:starEach (e :: es) X.env=(false,eval e X.env) :: starEach es X.env:=by rfl) (hpl:(backTo pos (starEach es X.env)).any (·.1)=false:=by rfl) :
    PE X (.Call (.Name x p) (e :: es) [] pos) (jL sp dvs E t):=by
  intro pins s σ H Q I h
  refine wpAny_Call_Name_kw (jk I hg hm ?_ hdb)
  refine PySem.W.callWith_K (h₀:=X.base) I.ok.mod.kin hk (cP (ha pos pins s σ H _ I h) fun us s1 ⟨vs,H1,I1,r,q⟩=>⟨I1.mD,?_⟩) he hpl
  exact w6 F hr hb hd hx I1 r q
theorem gk {pl:Sem Bool} (he:PE X o ta) (c:Ed X.K C) (hm:Meth X.K C m f) (F:aL X.prog X.w X.K X.mg X.base CX k f fd ps sp) (hr:bH k X.A) (hb:Binds X.K fd ps ds) (hd:Vals dvs ds) (hx:iM CX X E) (ha:PA X (e :: es) t)
    (hst:starEach (e :: es) X.env=(false,eval e X.env) :: starEach es X.env:=by rfl) (hpl:(backTo pos (starEach es X.env)).any (·.1)=false:=by rfl)
    (ht:eval (.Call (.Attribute o m apos) (e :: es) [] pos) X.env=(do
      let ov ← eval o X.env
      standAt apos.atName
      let (f,first) ← holding [ov] (getMethod ov m pl)
      callWith pos f first (backTo pos (starEach (e :: es) X.env)) (backToKw pos (keywordEach [] X.env))):=by rfl) :
    PE X (.Call (.Attribute o m apos) (e :: es) [] pos) (jK C m sp dvs E ta t):=by
  intro pins s σ H Q I h
  refine PySem.W.methodCall_KW (pl:=pl) (cP (he pins s σ H _ I h) fun u s1 ⟨x,H1,I1,rx,a,dx,fs,ex,ea,l,q⟩=>?_) ht
  subst ex
  obtain rfl:u=Value.ref a:=rx
  refine uJ I1 ea c hm l ?_
  refine PySem.W.callWith_K (first:=[.ref a]) (h₀:=X.base) I.ok.mod.kin hm.kp (cP (ha pos pins s1 σ H1 _ I1 q) fun us s2 ⟨vs,H2,I2,r,q2⟩=>⟨I2.mD,?_⟩) hst hpl
  exact w6 (us:=.ref a :: us) (vs:=.ref a :: vs) F hr hb hd hx I2 (.cons rfl r) q2
theorem dU {pl:Sem Bool} (he:PE X o ta) (c:Ed X.K C) (hm:Meth X.K C m f) (F:aL X.prog X.w X.K X.mg X.base CX k f fd ps sp) (hr:bH k X.A) (hb:Binds X.K fd ps ds) (hd:Vals dvs ds) (hx:iM CX X E)
    (ht:eval (.Call (.Attribute o m apos) [] [] pos) X.env=(do
      let ov ← eval o X.env
      standAt apos.atName
      let (f,first) ← holding [ov] (getMethod ov m pl)
      callWith pos f first (backTo pos (starEach [] X.env)) (backToKw pos (keywordEach [] X.env))):=by rfl) :
    PE X (.Call (.Attribute o m apos) [] [] pos) (jK C m sp dvs E ta cU):=by
  intro pins s σ H Q I h
  refine PySem.W.methodCall_KW (pl:=pl) (cP (he pins s σ H _ I h) fun u s1 ⟨x,H1,I1,rx,a,dx,fs,ex,ea,l,q⟩=>?_) ht
  subst ex
  obtain rfl:u=Value.ref a:=rx
  refine uJ I1 ea c hm l ?_
  exact PySem.W.callWith_K0 (first:=[.ref a]) I1.mD hm.kp (w6 (us:=[.ref a]) (vs:=[.ref a]) F hr hb hd hx I1 (.cons rfl .nil) q)
structure Mk (K:PySem.W.Frag) (C f:Addr):Prop where
  makes:PySem.W.makesIn K C=true
  init:PySem.W.findIn K (.ref C) "__init__"=some (some (.ref f))
  fn:PySem.W.isFn K (.ref f)=true
  kp:PySem.W.keepIn K (.ref C)=true
theorem Jj {pins:List (Addr×Obj)} {σ:St} {H:Hp} {s:Shared} {Q:VK} {us:List Value} {vs:List V} (M:Mk X.K C f) (F:aL X.prog X.w X.K X.mg X.base CX k f fd ps sp) (hr:bH (k+1) X.A) (hb:Binds X.K fd ps ds) (hd:Vals dvs ds)
    (hx:iM CX X E) (I:Inv X pins σ H s) (r:Vals vs us)
    (h:∀ x dx,H x=none→H dx=none→dx≠x→sp (.ref x :: (vs++dvs)) (upd (upd H dx (.own x)) x (.ins C dx [])) (fun v H2=>v=.non∧Q (.ref x) H2) E) :
    wpAny (model X.prog X.w) X.A (call (.ref C) us) (EP X pins σ Q) X.xe s:=by
  have hq:=h (s.heap.objs.size+1) s.heap.objs.size (I.hok.fresh (Nat.le_succ _)) (I.hok.fresh (Nat.le_refl _)) (Nat.ne_of_lt (Nat.lt_succ_self _))
  have I2:=Inv.made (C:=C) I
  have r2:Vals (V.ref (s.heap.objs.size+1) :: (vs++dvs)) (Value.ref (s.heap.objs.size+1) :: (us++ds)):=.cons rfl (r.append hd)
  have hl:(Value.ref (s.heap.objs.size+1) :: us++ds).length=ps.length:=by
    have e:=r2.length
    rw [F.len _ _ _ _ hq] at e
    exact e.symm
  refine wpAny_call (J1 (f:=f) I.mD M.makes M.init (beq_iff_eq.mp M.fn) (codeAny_mono (F.run _ X.stack _ _ ⟨Value.ref (s.heap.objs.size+1) :: us,[]⟩ (Value.ref (s.heap.objs.size+1) :: (us++ds)) _ _ E (hr.make C us [])
    (I2.env0.make C us []) (hb _ (Value.ref (s.heap.objs.size+1) :: us) I2.mD hl) r2 hq) fun r s' hq'=>?_))
  cases r with
  | error e=>exact hx pins σ _ _ e s' I2 hq'
  | ok fl =>
    cases fl with
    | ret u =>
      obtain ⟨v,H',I3,rv,ev,q3⟩:=I2.after hq'
      subst ev
      exact ⟨rv,⟨V.ref (s.heap.objs.size+1),H',I3,rfl,q3⟩⟩
    | next=>exact False.elim hq'
    | brk=>exact False.elim hq'
    | cont=>exact False.elim hq'
theorem dz (M:Mk X.K C f) (F:aL X.prog X.w X.K X.mg X.base CX k f fd ps sp) (hr:bH (k+1) X.A) (hg:Gl X x) (hm:X.mg x=some (.ref C)) (hb:Binds X.K fd ps ds) (hd:Vals dvs ds) (hx:iM CX X E)
    (ha:PA X (e :: es) t) (hdb:(x==("__debug__" : Str))=false:=by decide) (he:starEach (e :: es) X.env=(false,eval e X.env) :: starEach es X.env:=by rfl) (hpl:(backTo pos (starEach es X.env)).any (·.1)=false:=by rfl) :
    PE X (.Call (.Name x p) (e :: es) [] pos) (RV C sp dvs E t):=by
  intro pins s σ H Q I h
  refine wpAny_Call_Name_kw (jk I hg hm ?_ hdb)
  refine PySem.W.callWith_K (h₀:=X.base) I.ok.mod.kin M.kp (cP (ha pos pins s σ H _ I h) fun us s1 ⟨vs,H1,I1,r,q⟩=>⟨I1.mD,?_⟩) he hpl
  exact Jj M F hr hb hd hx I1 r q
end
def PK (X:Cx) (kws:List Keyword) (t:TA):Prop :=
  ∀ (pos:Pos) (pins:List (Addr×Obj)) (s:Shared) (σ:St) (H:Hp) (Q:List V→Hp→Prop),Inv X pins σ H s→t σ H Q→wpAny (model X.prog X.w) X.A (evalAll ((backToKw pos (keywordEach kws X.env)).map (·.2))) (AP X pins σ Q) X.xe s
section
variable {X:Cx} {CX:Ef} {k:Nat} {f C:Addr} {fd:FuncData} {ps ks:List Str} {sp:Sp} {E:XK} {x m:Str} {p pos apos kpos:Pos} {e o:Expr} {es:List Expr} {kws:List Keyword} {te ta:TE} {t tk:TA} {nm:Option Str}
theorem Qz:PK X [] cU:=fun _ _ _ _ H Q I h=>wpAny_evalAll_nil ⟨[],H,I,.nil,h⟩
theorem Mw (ha:PE X e te) (hr:PK X kws t):PK X (⟨nm,e,kpos⟩ :: kws) (aU te t):=by
  intro pos pins s σ H Q I h
  show wpAny _ _ (evalAll ((do let v ← eval e X.env; standAt pos; pure v) :: (backToKw pos (keywordEach kws X.env)).map (·.2))) _ _ s
  refine wpAny_evalAll_cons (wpAny_bind (cP (ha pins s σ H _ I h) fun u s1 ⟨x,H1,I1,r1,q1⟩=>wpAny_bind (wpAny_standAt (wpAny_pure ?_))))
  exact cP (hr pos pins s1 σ H1 _ I1 q1) fun us s2 ⟨xs,H2,I2,r2,q2⟩=>⟨x :: xs,H2,I2,.cons r1 r2,q2⟩
variable {g:List Value→List Value→List Value} {gV:List V→List V→List V}
end
structure aN (N P:List Str) (sc:Scope):Prop where
  kind:sc.kind=.function
  co:sc.isCoroutine=false
  gen:sc.isGenerator=false
  nd:N.Nodup
  pre:N.take P.length=P
  par:∀ x∈P,sc.names.lookup x=some .local∨sc.names.lookup x=some .cell
  nofree:∀ y∈sc.names,y.2≠.free
theorem wz {kindOf:Str→Option NameKind} {x:Str}:∀ {binds:List (Str×Value)} {m:Str→Option Value},(∀ v,(x,v)∉binds)→bindL kindOf binds m x=m x
  | [],_,_=>rfl
  | (n,v) :: r,m,h=>by
    unfold bindL
    rw [wz fun w hw=>h w (List.mem_cons_of_mem _ hw)]
    split
    · have:x≠n:=by rintro rfl; exact h v List.mem_cons_self
      simp [this]
    · rfl
theorem wB {kindOf:Str→Option NameKind} {x:Str}:∀ {binds:List (Str×Value)} {m:Str→Option Value},(∀ v,(x,v)∉binds)→bindC kindOf binds m x=m x
  | [],_,_=>rfl
  | (n,v) :: r,m,h=>by
    unfold bindC
    rw [wB fun w hw=>h w (List.mem_cons_of_mem _ hw)]
    split
    · rfl
    · have:x≠n:=by rintro rfl; exact h v List.mem_cons_self
      simp [this]
theorem wA {kindOf:Str→Option NameKind} {x:Str} {v:Value}:∀ {P:List Str} {vs:List Value} {i:Nat} {m:Str→Option Value},P.Nodup→P[i]?=some x→vs[i]?=some v→kindOf x=some .local →
    bindL kindOf (P.zip vs) m x=some v
  | [],_,_,_,_,h,_,_=>by simp at h
  | _ :: _,[],_,_,_,_,h,_=>by simp at h
  | p :: P,w :: vs,0,m,nd,h1,h2,hk=>by
    simp at h1 h2; subst h1; subst h2
    show bindL kindOf ((p,w) :: P.zip vs) m p=_
    unfold bindL
    rw [wz fun v hv=>(List.nodup_cons.mp nd).1 (List.of_mem_zip hv).1,if_pos hk]
    simp
  | p :: P,w :: vs,i+1,m,nd,h1,h2,hk=>by
    show bindL kindOf ((p,w) :: P.zip vs) m x=_
    unfold bindL
    exact wA (i:=i) (List.nodup_cons.mp nd).2 (by simpa using h1) (by simpa using h2) hk
theorem wC {kindOf:Str→Option NameKind} {x:Str} {v:Value}:∀ {P:List Str} {vs:List Value} {i:Nat} {m:Str→Option Value},P.Nodup→P[i]?=some x→vs[i]?=some v→kindOf x≠some .local →
    bindC kindOf (P.zip vs) m x=some v
  | [],_,_,_,_,h,_,_=>by simp at h
  | _ :: _,[],_,_,_,_,h,_=>by simp at h
  | p :: P,w :: vs,0,m,nd,h1,h2,hk=>by
    simp at h1 h2; subst h1; subst h2
    show bindC kindOf ((p,w) :: P.zip vs) m p=_
    unfold bindC
    rw [wB fun v hv=>(List.nodup_cons.mp nd).1 (List.of_mem_zip hv).1,if_neg hk]
    simp
  | p :: P,w :: vs,i+1,m,nd,h1,h2,hk=>by
    show bindC kindOf ((p,w) :: P.zip vs) m x=_
    unfold bindC
    exact wC (i:=i) (List.nodup_cons.mp nd).2 (by simpa using h1) (by simpa using h2) hk
def start (N:List Str) (vs:List V):St:=vs.map some++List.replicate (N.length - vs.length) none
def jm (CX:Ef) (P:Program) (w:World) (K:PySem.W.Frag) (mg:Str→Option Value) (base:Heap) (N:List Str) (qual:Str) (scope:Scope) (f:Addr) (cd:Value) (A:Around) (outer:List Env) (s:Shared) (H:Hp) (E:XK):Cx where
  prog:=P
  w:=w
  K:=K
  mg:=mg
  base:=base
  A:=A.deeper (envOfC qual scope s.heap.objs.size f cd)
  N:=N
  s_0:=s
  H_0:=H
  env:=envOfC qual scope s.heap.objs.size f cd
  outer:=outer
  stack:=envOfC qual scope s.heap.objs.size f cd :: outer
  ex:=[]
  calm:=true
  fn:=fun _=>true
  pn:=[]
  xe:=fun e s'=>wpAny (model P w) (A.deeper (envOfC qual scope s.heap.objs.size f cd)) (leaving (envOfC qual scope s.heap.objs.size f cd) e) (fun _ s''=>CX outer H s E e s'') (fun e' s''=>CX outer H s E e' s'') s'
theorem zO {sc:Scope} {n:Nat} {x:Str} (h:sc.names.lookup x=some .cell):∃ c,(cellsFrom n sc.names []).lookup x=some c:=by
  have q:=PySem.W.cellsFrom_some sc.names n [] (.inl h)
  exact Option.isSome_iff_exists.mp q
theorem Gw {CX:Ef} {P:Program} {w:World} {K:PySem.W.Frag} {mg:Str→Option Value} {base:Heap} {N ps:List Str} {qual:Str} {scope:Scope} {f:Addr} {cd:Value} {A:Around} {outer:List Env} {s s1:Shared} {H:Hp} {E:XK} {us:List Value} {vs:List V}
    (S:aN N ps scope) (hd:A.handled=none) (e0:Cm P w K mg base A outer s H) (hl:vs.length=ps.length) (r:Vals vs us)
    (x:InCallC s s.heap.objs.size (bindL (envOfC qual scope s.heap.objs.size f cd).kindOf (ps.zip us) fun _=>none) (cellsFrom (s.heap.objs.size+1) scope.names []) (bindC (envOfC qual scope s.heap.objs.size f cd).kindOf (ps.zip us) fun _=>none) s1) :
    Inv (jm CX P w K mg base N qual scope f cd A outer s H E) [] (start N vs) H s1:=by
  have hpl:ps.length≤N.length:=by have:=congrArg List.length S.pre; rw [List.length_take] at this; omega
  obtain ⟨h1,tk,rfl,hk⟩:=x.done
  have noA:∀ b:Addr,b∉(jm CX P w K mg base N qual scope f cd A outer s H E).ex:=fun b z=>absurd (show b∈([]:List Addr) from z) (by simp)
  refine ⟨⟨e0.mod,S.kind,rfl,rfl,Nat.le_refl _,fun y z c h1 h2=>?_,fun y hy=>?_,fun y c _ h=>?_,fun _=>hd,Around.frames_deeper e0.frames,.inr ⟨rfl,rfl⟩,fun b z=>absurd z (noA b),e0.bs,e0.bsz,fun b _ _=>noA b,fun b z=>absurd z (noA b),e0.oR,e0.frf⟩,
    rfl,e0.bare,Un.kept hk,⟨_,x.toInCall.ns,fun i y v h1 h2 h3=>?_⟩,fun y c h=>⟨_,x.cell y c h⟩,e0.hok.fresh (Nat.le_refl _),fun y c h=>?_,fun p hp=>absurd (show p∈([]:List (Addr×Obj)) from hp) (by simp),e0.hok.kept hk,?_⟩
  · exact name_of_addr x.apart (PySem.mem_of_lookup h1) (PySem.mem_of_lookup h2)
  · have hy:scope.names.lookup y=some .cell∨scope.names.lookup y=some .free:=hy
    rcases hy with hy | hy
    · exact zO hy
    · exact absurd rfl (S.nofree _ (PySem.mem_of_lookup hy))
  · exact Nat.le_of_lt (x.above y c (PySem.mem_of_lookup h))
  · have hi:i < vs.length:=by
      unfold start at h2
      by_cases hi:i < vs.length
      · exact hi
      · rw [List.getElem?_append_right (by simpa using hi)] at h2
        rw [List.getElem?_replicate] at h2
        split at h2 <;> cases h2
    have ha:vs[i]?=some v:=by
      unfold start at h2
      rw [List.getElem?_append_left (by simpa using hi),List.getElem?_map] at h2
      cases e:vs[i]? with
      | none=>rw [e] at h2; cases h2
      | some a=>rw [e] at h2; cases h2; rfl
    obtain ⟨u,hu,rv⟩:=r.get ha
    have hp:ps[i]?=some y:=by
      rw [← S.pre,List.getElem?_take_of_lt (by omega)]; exact h1
    have ndP:ps.Nodup:=by rw [← S.pre]; exact S.nd.sublist (List.take_sublist _ _)
    refine ⟨u,rv,?_⟩
    rcases S.par y (List.mem_of_getElem? hp) with k | k
    · exact .inl ⟨k,wA ndP hp hu k⟩
    · obtain ⟨c,e⟩:=zO (n:=s.heap.objs.size+1) k
      refine .inr ⟨.inl k,c,e,?_⟩
      have q:=x.cell y c e
      rw [wC ndP hp hu (by show scope.names.lookup y≠_; rw [k]; decide)] at q
      exact q
  · exact e0.hok.fresh (Nat.le_of_lt (x.above y c (PySem.mem_of_lookup h)))
  · unfold start
    show _=N.length
    rw [List.length_append,List.length_map,List.length_replicate]
    omega
theorem SJ {CX:Ef} {P:Program} {w:World} {K:PySem.W.Frag} {mg:Str→Option Value} {base:Heap} {k:Nat} {f:Addr} {name qual:Str} {params:Arguments} {body:List Stmt} {scope:Scope} {dV kV doc pm cdv ct oc:Value} {an od:Option Addr}
    {osl:Array (Option Value)} {N ps:List Str} {sp:Sp} (lk:K.lookup f=some ⟨oc,od,.func (PySem.W.fnOf name qual params body scope dV kV doc pm an cdv ct),osl⟩) (hcd:PySem.W.codeIn K cdv qual=true) (S:aN N ps scope)
    (len:∀ vs H Q E,sp vs H Q E→vs.length=ps.length)
    (hbody:∀ (A:Around) (outer:List Env) (s:Shared) (H:Hp) (vs:List V) (Q:VK) (E:XK),bH k (A.deeper (envOfC qual scope s.heap.objs.size f cdv))→sp vs H Q E →
      ∃ t,Hv (jm CX P w K mg base N qual scope f cdv A outer s H E) body t∧t { nx:=fun _ H'=>Q .non H',rt:=Q } (start N vs) H) :
    aL P w K mg base CX (k+1) f (PySem.W.fnOf name qual params body scope dV kV doc pm an cdv ct) ps sp:=by
  refine ⟨len,fun A outer s H args us vs Q E hr e0 hb r hsp=>?_⟩
  have hl:=len _ _ _ _ hsp
  have KX:K.In s.heap:=e0.mod.kin.keeps fun b o e=>(e0.bs b o e).1
  have lim:s.heap.NoLimit:=e0.mod.nolimit.keeps fun b o e=>(e0.bs b o e).1
  have hkind:∀ y∈ps.zip us,scope.names.lookup y.1=some .local∨(scope.names.lookup y.1=some .cell∧((cellsFrom (s.heap.objs.size+1) scope.names []).lookup y.1).isSome=true):=fun ⟨n,v⟩ hy=>by
    rcases S.par n (List.of_mem_zip hy).1 with q | q
    · exact .inl q
    · exact .inr ⟨q,PySem.W.cellsFrom_some _ _ _ (.inl q)⟩
  refine codeAny_call_function hr.depth (KX _ _ lk) rfl S.co S.gen rfl (PySem.W.codeRec_of KX hcd) (hb _ _ _ _ ?_)
  refine wpAny_newFunctionEnv_cells S.kind hkind fun env he s1 x=>?_
  subst he
  refine ⟨lim.keeps x.toInCall.keep,codeAny_func ?_⟩
  obtain ⟨t,ht,hq⟩:=hbody A outer s H vs Q E (hr.deeper _) hsp
  have I:Inv (jm CX P w K mg base N qual scope f cdv A outer s H E) [] (start N vs) H s1:=Gw S hr.hd e0 hl r x
  refine wpAny_mono (ht [] s1 (start N vs) H _ I hq) (fun fl s' hs=>?_) fun e s' hs=>hs
  have fin:∀ {σ':St} {H':Hp} {v:V} {u:Value},Inv (jm CX P w K mg base N qual scope f cdv A outer s H E) [] σ' H' s'→RelV v u→Q v H'→CE outer P w H s Q u s' :=
    fun {σ' H' v u} J rv q=>⟨v,H',J.os,J.bare,J.base,J.hok,rv,q⟩
  cases fl with
  | ret u =>
    obtain ⟨v,σ',H',J,rv,q⟩:=hs
    exact fin J rv q
  | next =>
    obtain ⟨σ',H',J,q⟩:=hs
    exact fin (v:=V.non) (u:=Value.none) J rfl q
  | brk =>
    obtain ⟨_,_,_,q⟩:=hs
    exact False.elim q
  | cont =>
    obtain ⟨_,_,_,q⟩:=hs
    exact False.elim q
end L2
namespace L2
open PySem PySem.Spec PyProof.Rows
section
variable {X:Cx} {x:Str} {p pos:Pos} {e:Expr} {es:List Expr} {t:TA} {id T:String} {r:List V→Hp→VK→Prop}
def Eo (r:List V→Hp→VK→Prop) (t:TA):TE:=fun σ H Q=>t σ H fun vs H1=>r vs H1 Q
theorem bJ (hc:lY X (.builtin id) r) (hg:Gl X x) (hm:X.mg x=none) (hv:bootBuiltins x=some (.builtin id)) (ha:PA X (e :: es) t) (hn:x ≠ "__name__":=by decide) (hdb:(x==("__debug__" : Str))=false:=by decide)
    (he:starEach (e :: es) X.env=(false,eval e X.env) :: starEach es X.env:=by rfl) (hpl:(backTo pos (starEach es X.env)).any (·.1)=false:=by rfl):PE X (.Call (.Name x p) (e :: es) [] pos) (Eo r t):=by
  intro pins s σ H Q I h
  refine wpAny_Call_Name_kw (qb I hg hm hv ?_ hn hdb)
  exact PyProof.Rows.callWith_builtin1 (cP (ha pos pins s σ H _ I h) fun us s1 ⟨vs,H1,I1,r1,q1⟩=>hc pins s1 σ H1 vs us Q I1 r1 q1) he hpl
theorem fc (hc:lY X (.type T) r) (hg:Gl X x) (hm:X.mg x=none) (hv:bootBuiltins x=some (.type T)) (ha:PA X (e :: es) t) (hn:x ≠ "__name__":=by decide) (hdb:(x==("__debug__" : Str))=false:=by decide)
    (he:starEach (e :: es) X.env=(false,eval e X.env) :: starEach es X.env:=by rfl) (hpl:(backTo pos (starEach es X.env)).any (·.1)=false:=by rfl):PE X (.Call (.Name x p) (e :: es) [] pos) (Eo r t):=by
  intro pins s σ H Q I h
  refine wpAny_Call_Name_kw (qb I hg hm hv ?_ hn hdb)
  exact PyProof.Rows.callWith_type1 (cP (ha pos pins s σ H _ I h) fun us s1 ⟨vs,H1,I1,r1,q1⟩=>hc pins s1 σ H1 vs us Q I1 r1 q1) he hpl
end
end L2
namespace HT
open PySem PyProof.Rows
section
open PySem.SeqAt
open PySem.AutoSeq1 (wpAny_loadPart')
open PySem.MeetsSeq PySem.MeetsSeq2 PySem.MeetsSeq3
end
section
variable {prog:Program} {w:World} {A:Around} {E:Value→Shared→Prop} {s:Shared}
def gB (n d:Nat):Option Int→Nat
  | none=>d
  | some v=>if v < 0 then (v+(n:Int)).toNat else min v.toNat n
theorem Je (n d:Nat):gB n d none=d:=rfl
theorem wZ (n d k:Nat):gB n d (some (k:Int))=min k n:=by
  show (if (k:Int) < 0 then ((k:Int)+(n:Int)).toNat else min (k:Int).toNat n)=min k n
  rw [if_neg (by omega),Int.toNat_natCast]
theorem Jf (n d:Nat) (hd:d≤n) (o:Option Int):gB n d o≤n:=by
  cases o with
  | none=>exact hd
  | some v =>
    show (if v < 0 then (v+(n:Int)).toNat else min v.toNat n)≤n
    by_cases hv:v < 0
    · rw [if_pos hv]; omega
    · rw [if_neg hv]; exact Nat.min_le_right _ _
end
end HT
namespace L2
open PySem PySem.Spec PyProof.Rows
abbrev TO:=St→Hp→(Option Int→Hp→Prop)→Prop
def PO (X:Cx) (e:Option Expr) (t:TO):Prop :=
  ∀ (pins:List (Addr×Obj)) (s:Shared) (σ:St) (H:Hp) (Q:Option Int→Hp→Prop),Inv X pins σ H s→t σ H Q →
    wpAny (model X.prog X.w) X.A (evalPart e X.env) (fun u s'=>∃ o H',Inv X pins σ H' s'∧IsPart u o∧Q o H') X.xe s
def Ls:TO:=fun _ H Q=>Q none H
def RP (t:TE):TO:=fun σ H Q=>t σ H fun x H1=>∃ i,x=.int i∧Q (some i) H1
section
variable {X:Cx} {e:Expr} {te:TE} {lo hi:Option Expr} {tl th:TO} {pos p2:Pos}
theorem Dd:PO X none Ls:=by
  intro pins s σ H Q I h
  rw [evalPart_none]
  exact wpAny_pure ⟨none,H,I,.none,h⟩
theorem kO (h:PE X e te):PO X (some e) (RP te):=by
  intro pins s σ H Q I hw
  rw [evalPart_some]
  refine cP (h pins s σ H _ I hw) fun u s1 ⟨x,H1,I1,r1,q1⟩=>?_
  obtain ⟨i,rfl,q⟩:=q1
  obtain ⟨t,rfl⟩:=r1
  exact ⟨some i,H1,I1,.int i t,q⟩
def UL (X:Cx) (r:V→Option Int→Option Int→Hp→VK→Prop):Prop :=
  ∀ (pins:List (Addr×Obj)) (s:Shared) (σ:St) (H:Hp) (x:V) (v vl vu:Value) (lo hi:Option Int) (sl:Addr) (Q:VK),Inv X pins σ H s→RelV x v→s.heap.IsSliceOf sl vl vu .none→IsPart vl lo→IsPart vu hi→r x lo hi H Q →
    ∃ T id,typeLookup (.type T) "__getitem__"=pure (some (.builtin id))∧s.TypeIs v T∧wpAny (model X.prog X.w) X.A (getItem v (.ref sl)) (EP X pins σ Q) X.xe s
def Vc (r:V→Option Int→Option Int→Hp→VK→Prop) (te:TE) (tl th:TO):TE:=fun σ H Q=>te σ H fun x H1=>tl σ H1 fun l H2=>th σ H2 fun u H3=>r x l u H3 Q
theorem oE {r:V→Option Int→Option Int→Hp→VK→Prop} (hr:UL X r) (he:PE X e te) (hl:PO X lo tl) (hu:PO X hi th):PE X (.Subscript e (.Slice lo hi none p2) pos) (Vc r te tl th):=by
  intro pins s σ H Q I h
  refine Subscript_ (cP (he pins s σ H _ I h) fun v s1 ⟨x,H1,I1,r1,q1⟩=>?_)
  refine wpAny_Slice (cP (hl pins s1 σ H1 _ I1 q1) fun vl s2 ⟨l,H2,I2,pl,q2⟩=>cP (hu pins s2 σ H2 _ I2 q2) fun vu s3 ⟨u,H3,I3,pu,q3⟩=>?_)
  rw [evalPart_none]
  refine wpAny_pure ?_
  have I4:Inv X pins σ H3 { s3 with heap:=s3.heap.push { cls:=.type "slice",data:=.fields #[vl,vu,.none] } }:=I3.kept (t':=s3.toks) fun b ob q=>Heap.get?_push_of_some _ q
  obtain ⟨T,id,hT,ht,hg⟩:=hr pins { s3 with heap:=s3.heap.push { cls:=.type "slice",data:=.fields #[vl,vu,.none] } } σ H3 x v vl vu l u s3.heap.objs.size Q I4 r1 (Heap.IsSliceOf.new ..) pl pu q3
  show wpAny (model X.prog X.w) X.A (subscriptTail e (.Slice lo hi none p2) v (.ref s3.heap.objs.size)) (EP X pins σ Q) X.xe { s3 with heap:=s3.heap.push { cls:=.type "slice",data:=.fields #[vl,vu,.none] } }
  exact tail_any (ops:=[.ref s3.heap.objs.size,v]) ht hT hg (by with_unfolding_all rfl)
def oW (xs:List V) (lo hi:Option Int):List V:=(xs.drop (HT.gB xs.length 0 lo)).take (HT.gB xs.length xs.length hi - HT.gB xs.length 0 lo)
theorem zK (xs:List V) (lo hi:Option Int):(oW xs lo hi).length≤xs.length:=by
  unfold oW
  rw [List.length_take,List.length_drop]
  omega
end
end L2
namespace L2
open PySem PySem.Spec PyProof.Rows
def Lh (n:Nat) (i:Int):Option Nat:=if 0≤i then (if i < n then some i.toNat else none) else if -(n:Int)≤i then some (i+n).toNat else none
def lF {α:Type} (xs:List α) (i:Int):Option α:=(Lh xs.length i).bind fun j=>xs[j]?
theorem NT {n:Nat} {i:Int} {j:Nat} (h:Lh n i=some j):seqIndex? i n=some j∧j < n∧-(n:Int)≤i∧i < n:=by
  unfold Lh at h
  by_cases h0:0≤i
  · rw [if_pos h0] at h
    by_cases h1:i < n
    · rw [if_pos h1] at h
      have e:i.toNat=j:=Option.some.inj h
      exact ⟨by rw [seqIndex_of h0 h1,e],by omega,by omega,h1⟩
    · rw [if_neg h1] at h; cases h
  · rw [if_neg h0] at h
    by_cases h1:-(n:Int)≤i
    · rw [if_pos h1] at h
      have e:(i+n).toNat=j:=Option.some.inj h
      exact ⟨by rw [seqIndex_neg (by omega) h1,e],by omega,h1,by omega⟩
    · rw [if_neg h1] at h; cases h
theorem Ea {α:Type} {xs:List α} {i:Int} {v:α} (h:lF xs i=some v):∃ j,seqIndex? i xs.length=some j∧xs[j]?=some v∧j < xs.length∧-(xs.length:Int)≤i∧i < xs.length:=by
  unfold lF at h
  cases e:Lh xs.length i with
  | none=>rw [e] at h; cases h
  | some j =>
    rw [e] at h
    obtain ⟨h1,h2,h3,h4⟩:=NT e
    exact ⟨j,h1,h,h2,h3,h4⟩
theorem jr {α:Type} {xs:List α} {j:Nat} {v:α} (h:xs[j]?=some v):lF xs (j:Int)=some v:=by
  have hj:j < xs.length:=(List.getElem?_eq_some_iff.mp h).1
  have e:Lh xs.length (j:Int)=some j:=by
    unfold Lh
    rw [if_pos (by omega),if_pos (by omega)]; simp
  unfold lF; rw [e]; exact h
def sV (b:Expr):Prop:=∀ o i,subscripted b false o i=operate [o,i] (getItem o i)
def UV (X:Cx) (r:R2):Prop :=
  ∀ (value slice:Expr) (pins:List (Addr×Obj)) (s:Shared) (σ:St) (H:Hp) (x y:V) (v u:Value) (Q:VK),Inv X pins σ H s→RelV x v→RelV y u→r x y H Q →
    subscripted slice false v u=operate [v,u] (getItem v u)→wpAny (model X.prog X.w) X.A (subscriptTail value slice v u) (EP X pins σ Q) X.xe s
def PN (X:Cx) (id:String) (r:V→List V→Hp→VK→Prop):Prop :=
  ∀ (pins:List (Addr×Obj)) (s:Shared) (σ:St) (H:Hp) (x:V) (xs:List V) (v:Value) (us:List Value) (Q:VK),Inv X pins σ H s→RelV x v→Vals xs us→r x xs H Q →
    wpAny (model X.prog X.w) X.A (call (.builtin id) (v :: us)) (EP X pins σ Q) X.xe s
section
variable {X:Cx} {a b:Expr} {ta tb:TE} {pos:Pos}
theorem bj {r:R2} (hr:UV X r) (ha:PE X a ta) (hb:PE X b tb) (hs:sV b):PE X (.Subscript a b pos) (z_ r ta tb):=by
  intro pins s σ H Q I h
  exact Subscript_ (Rk ha hb I h fun v u s2 x y H2 I2 rx ry q=>hr a b pins s2 σ H2 x y v u Q I2 rx ry q (hs _ _))
def rG (K:PySem.W.Frag):R2:=fun x y H Q=>∃ p xs i v,x=.ref p∧y=.int i∧bG K H p xs∧lF xs i=some v∧Q v H
def xg (K:PySem.W.Frag):R2:=fun x y H Q=>∃ p xs i v,x=.ref p∧y=.int i∧dY K H p xs∧lF xs i=some v∧Q v H
theorem cD:UV X (rG X.K):=by
  intro value slice pins s σ H x y v u Q I rx ry h hs
  obtain ⟨p,xs,i,z,rfl,rfl,hq,he,q⟩:=h
  cases rx
  obtain ⟨t,rfl⟩:=ry
  obtain ⟨its,r,pl,hz⟩:=I.list hq
  obtain ⟨j,h1,h2,h3,h4,h5⟩:=Ea he
  obtain ⟨w,ew,rw'⟩:=r.get h2
  have hl:=r.length
  have hn:=uz
  have fin:EP X pins σ Q w s:=⟨z,H,I,rw',q⟩
  by_cases h0:0≤i
  · have hj:i.toNat=j:=by
      rw [seqIndex_of h0 h5] at h1
      exact Option.some.inj h1
    exact item_listR pl.isList h0 (by omega) (by rw [hj]; simpa using ew) fin hs
  · have hj:(i+(its.toArray.size:Int)).toNat=j:=by
      rw [seqIndex_neg (by omega) h4] at h1
      rw [List.size_toArray,← hl]
      exact Option.some.inj h1
    exact subscriptTail_builtinR (x:=w) pl.isList.typeIs slot_list_getitem.lookup
      (wpAny_getItem_list_neg (Q:=fun r s'=>r=w∧EP X pins σ Q r s') pl.isList (by omega) (by rw [List.size_toArray] <;> omega) (by omega) (by rw [hj]; simpa using ew) ⟨rfl,fin⟩) hs
theorem bL:UV X (xg X.K):=by
  intro value slice pins s σ H x y v u Q I rx ry h hs
  obtain ⟨p,xs,i,z,rfl,rfl,hq,he,q⟩:=h
  cases rx
  obtain ⟨t,rfl⟩:=ry
  obtain ⟨its,r,pl,hz⟩:=I.tuple hq
  obtain ⟨j,h1,h2,h3,h4,h5⟩:=Ea he
  obtain ⟨w,ew,rw'⟩:=r.get h2
  have hl:=r.length
  have hn:=uz
  have fin:EP X pins σ Q w s:=⟨z,H,I,rw',q⟩
  exact subscriptTail_builtinR (x:=w) pl.typeIs slot_tuple_getitem.lookup
    (getItem_tuple (j:=j) (Q:=fun r s'=>r=w∧EP X pins σ Q r s') pl (by omega) (by omega) (by rw [List.size_toArray,← hl]; exact h1) (by simpa using ew) ⟨rfl,fin⟩) hs
theorem wR (lo hi:Option Int) (n:Nat):(sliceBounds lo hi none n).1=((HT.gB n 0 lo:Nat):Int)∧(sliceBounds lo hi none n).2.1=((HT.gB n n hi:Nat):Int)∧(sliceBounds lo hi none n).2.2=1:=by
  refine ⟨?_,?_,rfl⟩
  · cases lo with
    | none=>simp [sliceBounds,HT.gB]
    | some i =>
      simp only [sliceBounds,HT.gB,Option.getD_none,show (1:Int) > 0 by decide,if_true]
      by_cases h:i < 0
      · simp only [h,if_true] <;> omega
      · simp only [h,if_false] <;> omega
  · cases hi with
    | none=>simp [sliceBounds,HT.gB]
    | some i =>
      simp only [sliceBounds,HT.gB,Option.getD_none,show (1:Int) > 0 by decide,if_true]
      by_cases h:i < 0
      · simp only [h,if_true] <;> omega
      · simp only [h,if_false] <;> omega
theorem vh (its:List Value) (lo hi:Option Int):slicePick its.toArray lo hi none=((its.drop (HT.gB its.length 0 lo)).take (HT.gB its.length its.length hi - HT.gB its.length 0 lo)).toArray:=by
  obtain ⟨h1,h2,h3⟩:=wR lo hi its.toArray.size
  unfold slicePick
  rw [h1,h2,h3]
  simp only [sliceRange_one,pick_run,List.size_toArray] <;> rfl
def T_ (K:PySem.W.Frag):V→Option Int→Option Int→Hp→VK→Prop:=fun x lo hi H Q=>∃ a xs,x=.ref a∧bG K H a xs∧∀ p,H p=none→Q (.ref p) (upd H p (.lst (oW xs lo hi)))
theorem wU:UL X (T_ X.K):=by
  intro pins s σ H x v vl vu lo hi sl Q I rx hs pl pu h
  obtain ⟨a,xs,rfl,hx,q⟩:=h
  cases rx
  obtain ⟨its,r,ht,hz⟩:=I.list hx
  have hlen:=r.length
  refine ⟨"list",_,slot_list_getitem.lookup,ht.isList.typeIs,?_⟩
  refine wpAny_getItem_list_slice ht.isList hs pl pu .none (by simp) ?_ (by rw [List.size_toArray] <;> omega)
  rw [vh,← hlen]
  refine ⟨.ref s.heap.objs.size,_,I.laid (t':=s.toks) (o:=.lst (oW xs lo hi)) (fun b ob q=>Heap.get?_push_of_some _ q) (Nat.le_refl _) ?_,rfl,q _ (I.hok.fresh (Nat.le_refl _))⟩
  exact ⟨Nat.le_trans (zK xs lo hi) hz,_,0,(r.drop (HT.gB xs.length 0 lo)).take (HT.gB xs.length xs.length hi - HT.gB xs.length 0 lo),Heap.get?_push_size _ rfl⟩
def rB:V→Bool
  | .non=>true
  | .bl _=>true
  | .int _=>true
  | .str _=>true
  | _=>false
def Pr:V→V→Bool
  | .non,.non=>true
  | .bl a,.bl b=>a==b
  | .bl a,.int b=>(if a then 1 else 0)==b
  | .int a,.bl b=>a==(if b then 1 else 0)
  | .int a,.int b=>a==b
  | .str a,.str b=>a==b
  | _,_=>false
theorem Rf {A:Around} {s:Shared} {y x:V} {u v:Value} (ry:RelV y u) (rx:RelV x v) (fy:rB y=true) (fx:rB x=true):SeqAt.EqAt A s u v (Pr y x):=by
  cases y with
  | non =>
    cases ry
    cases x with
    | non=>cases rx; exact SeqAt.EqAt.same _
    | bl b=>cases rx; exact SeqAt.EqAt.none_bool b
    | int b=>obtain ⟨t,rfl⟩:=rx; exact SeqAt.EqAt.none_int b t
    | str b=>obtain ⟨t,rfl⟩:=rx; exact SeqAt.EqAt.none_str b t
    | _=>exact absurd (show false=true from fx) Bool.false_ne_true
  | bl a =>
    cases ry
    cases x with
    | non=>cases rx; exact SeqAt.EqAt.bool_none a
    | bl b=>cases rx; exact SeqAt.EqAt.bool_bool a b
    | int b=>obtain ⟨t,rfl⟩:=rx; exact SeqAt.EqAt.bool_int a b t
    | str b=>obtain ⟨t,rfl⟩:=rx; exact SeqAt.EqAt.bool_str a b t
    | _=>exact absurd (show false=true from fx) Bool.false_ne_true
  | int a =>
    obtain ⟨t',rfl⟩:=ry
    cases x with
    | non=>cases rx; exact SeqAt.EqAt.int_none a t'
    | bl b=>cases rx; exact SeqAt.EqAt.int_bool a t' b
    | int b=>obtain ⟨t,rfl⟩:=rx; exact SeqAt.EqAt.int_int a t' b t
    | str b=>obtain ⟨t,rfl⟩:=rx; exact SeqAt.EqAt.int_str a t' b t
    | _=>exact absurd (show false=true from fx) Bool.false_ne_true
  | str a =>
    obtain ⟨t',rfl⟩:=ry
    cases x with
    | non=>cases rx; exact SeqAt.EqAt.str_none a t'
    | bl b=>cases rx; exact SeqAt.EqAt.str_bool a t' b
    | int b=>obtain ⟨t,rfl⟩:=rx; exact SeqAt.EqAt.str_int a t' b t
    | str b=>obtain ⟨t,rfl⟩:=rx; exact SeqAt.EqAt.str_str a t' b t
    | _=>exact absurd (show false=true from fx) Bool.false_ne_true
  | _=>exact absurd (show false=true from fy) Bool.false_ne_true
def Oc (x:V) (u:Value):Bool:=match u with
  | .none=>Pr .non x
  | .bool b=>Pr (.bl b) x
  | .int i _=>Pr (.int i) x
  | .str z _=>Pr (.str z) x
  | _=>false
theorem Kz {x y:V} {u:Value} (r:RelV y u) (f:rB y=true):Oc x u=Pr y x:=by
  cases y with
  | non=>cases r; rfl
  | bl b=>cases r; rfl
  | int i=>obtain ⟨t,rfl⟩:=r; rfl
  | str z=>obtain ⟨t,rfl⟩:=r; rfl
  | _=>exact absurd (show false=true from f) Bool.false_ne_true
theorem yg {x:V}:∀ {xs:List V} {us:List Value},Vals xs us→xs.all rB=true→us.any (Oc x)=xs.any fun y=>Pr y x
  | _,_,.nil,_=>rfl
  | y :: xs,u :: us,.cons r t,f=>by
    rw [List.all_cons,Bool.and_eq_true] at f
    rw [List.any_cons,List.any_cons,Kz r f.1,yg t f.2]
theorem uy {A:Around} {s:Shared} {x:V} {v:Value} (rx:RelV x v) (fx:rB x=true):∀ {xs:List V} {us:List Value},Vals xs us→xs.all rB=true→∀ u∈us,SeqAt.EqAt A s u v (Oc x u)
  | _,_,.nil,_=>fun u hu=>by cases hu
  | y :: xs,u :: us,.cons r t,f=>fun u' hu=>by
    rw [List.all_cons,Bool.and_eq_true] at f
    rcases List.mem_cons.mp hu with rfl | hu
    · rw [Kz r f.1]; exact Rf r rx f.1 fx
    · exact uy rx fx t f.2 u' hu
def inV (x:V) (xs:List V):Bool:=xs.any fun y=>Pr y x
def Vg (K:PySem.W.Frag) (neg:Bool):R2:=fun x y H Q=>∃ p xs,y=.ref p∧(bG K H p xs∨dY K H p xs)∧rB x=true∧xs.all rB=true∧Q (.bl (if neg then !inV x xs else inV x xs)) H
theorem Fq:u0 X (compareOp .In) (Vg X.K false):=by
  intro pins s σ H x y v u Q I rx ry h
  obtain ⟨p,xs,rfl,hq,fx,fs,q⟩:=h
  cases ry
  rcases hq with hq | hq
  · obtain ⟨its,r,pl,hz⟩:=I.list hq
    refine SeqAt.in_listAt (Oc x) pl.isList (fun w hw=>uy rx fx r fs w (by simpa using hw)) ⟨.bl _,H,I,rfl,?_⟩
    rw [show its.toArray.any (Oc x)=its.any (Oc x) by simp,yg r fs]
    exact q
  · obtain ⟨its,r,pl,hz⟩:=I.tuple hq
    refine SeqAt.in_tupleAt (Oc x) pl (fun w hw=>uy rx fx r fs w (by simpa using hw)) ⟨.bl _,H,I,rfl,?_⟩
    rw [show its.toArray.any (Oc x)=its.any (Oc x) by simp,yg r fs]
    exact q
theorem bc:lY X (.builtin "len") (fun xs H Q=>∃ p ys,xs=[.ref p]∧(bG X.K H p ys∨dY X.K H p ys)∧Q (.int ys.length) H):=by
  intro pins s σ H xs us Q I r h
  obtain ⟨p,ys,rfl,hq,q⟩:=h
  obtain ⟨u,rfl,rx⟩:=vals1 r
  cases rx
  have hn:=uz
  rcases hq with hq | hq
  · obtain ⟨its,r',pl,hz⟩:=I.list hq
    have hlen:=r'.length
    exact Calls.call_len_list pl.isList (by simp only [List.size_toArray] <;> omega) ⟨.int ys.length,H,I.tok _,⟨s.toks+1,by rw [List.size_toArray,hlen]⟩,q⟩
  · obtain ⟨its,r',pl,hz⟩:=I.tuple hq
    have hlen:=r'.length
    exact len_tuple pl (by simp only [List.size_toArray] <;> omega) ⟨.int ys.length,H,I.tok _,⟨s.toks+1,by rw [List.size_toArray,hlen]⟩,q⟩
theorem jo:lY X (.builtin "len") (fun xs H Q=>∃ z,xs=[.str z]∧z.length≤sizeLine∧Q (.int z.length) H):=by
  intro pins s σ H xs us Q I r h
  obtain ⟨z,rfl,hz,q⟩:=h
  obtain ⟨u,rfl,t,rfl⟩:=vals1 r
  have hn:=uz
  exact len_str (by omega) ⟨.int z.length,H,I.tok _,⟨_,rfl⟩,q⟩
theorem xW:lY X (.type "list") (fun xs H Q=>∃ p ys,xs=[.ref p]∧(bG X.K H p ys∨dY X.K H p ys)∧∀ l,H l=none→Q (.ref l) (upd H l (.lst ys))):=by
  intro pins s σ H xs us Q I r h
  obtain ⟨p,ys,rfl,hq,q⟩:=h
  obtain ⟨u,rfl,rx⟩:=vals1 r
  cases rx
  have fin:∀ (its:List Value),Vals ys its→ys.length≤sizeLine→∀ (h':Heap) (c':Nat),(∀ b o',s.heap.get? b=some o'→h'.get? b=some o') →
      h'.get? s.heap.objs.size=some { cls:=.type "list",dict:=none,data:=.seq its.toArray c',slots:=#[] }→EP X pins σ Q (.ref s.heap.objs.size) { s with heap:=h' }:=fun its r' hz h' c' kp e =>
    ⟨.ref s.heap.objs.size,_,I.laid (t':=s.toks) kp (Nat.le_refl _) (show cX X.prog X.w _ h' _ (.lst ys) from ⟨hz,its,c',r',e⟩),rfl,q _ (I.hok.fresh (Nat.le_refl _))⟩
  rcases hq with hq | hq
  · obtain ⟨its,r',pl,hz⟩:=I.list hq
    have hlen:=r'.length
    obtain ⟨o,ho,hc,n,hd⟩:=pl.isList
    exact call_list_seq p (.inl rfl) ho hc hd (fun h' c' kp e=>fin its r' hz h' c' kp e) (by simp only [List.size_toArray] <;> omega)
  · obtain ⟨its,r',pl,hz⟩:=I.tuple hq
    have hlen:=r'.length
    obtain ⟨o,ho,hc,n,hd⟩:=pl
    exact call_list_seq p (.inr rfl) ho hc hd (fun h' c' kp e=>fin its r' hz h' c' kp e) (by simp only [List.size_toArray] <;> omega)
theorem vq:lY X (.type "tuple") (fun xs H Q=>∃ p ys,xs=[.ref p]∧((bG X.K H p ys∧∀ l,H l=none→Q (.ref l) (upd H l (.tup ys)))∨(dY X.K H p ys∧Q (.ref p) H))):=by
  intro pins s σ H xs us Q I r h
  obtain ⟨p,ys,rfl,h⟩:=h
  obtain ⟨u,rfl,rx⟩:=vals1 r
  cases rx
  rcases h with ⟨hq,q⟩ | ⟨hq,q⟩
  · obtain ⟨its,r',pl,hz⟩:=I.list hq
    have hlen:=r'.length
    refine call_tuple_list pl.isList (fun h' kp=>?_) (by simp only [List.size_toArray] <;> omega)
    have I1:Inv X pins σ H { s with heap:=h' }:=I.kept (t':=s.toks) kp
    have I2:Inv X pins σ (upd H h'.objs.size (.tup ys)) { s with heap:=h'.push { cls:=.type "tuple",data:=.seq its.toArray } } :=
      I1.laid (t':=s.toks) (fun b o e=>Heap.get?_push_of_some _ e) (Nat.le_refl _) (show cX X.prog X.w _ _ _ (.tup ys) from ⟨hz,its,r',IsTup.new _ _⟩)
    exact ⟨.ref h'.objs.size,_,I2,rfl,q _ (I1.hok.fresh (Nat.le_refl _))⟩
  · obtain ⟨its,r',pl,hz⟩:=I.tuple hq
    exact call_tuple_same pl ⟨.ref p,H,I,rfl,q⟩
def Tz (K:PySem.W.Frag) (T:String) (x:V) (H:Hp):Prop:=match x with
  | .str _=>T = "str"
  | .int _=>T = "int"
  | .ref p=>(T = "list"∧∃ xs,bG K H p xs)∨(T = "tuple"∧∃ o,K.lookup p=some o∧o.cls=.type "tuple"∧o.dict=none) ∨
      (T = "dict"∧((∃ kvs,H p=some (.dK kvs))∨∃ kvs,H p=some (.dT kvs)))∨(T = "set"∧∃ S n,H p=some (.set S n))
  | _=>False
theorem HQ {pins:List (Addr×Obj)} {σ:St} {H:Hp} {s:Shared} {T:String} {x:V} {v:Value} (I:Inv X pins σ H s) (r:RelV x v) (ty:Tz X.K T x H) :
    s.TypeIs v T∧∀ a,v=.ref a→∃ ob,s.heap.get? a=some ob∧ob.dict=none:=by
  cases x with
  | str z =>
    obtain ⟨t,rfl⟩:=r
    cases (show T = "str" from ty)
    exact ⟨typeIs_str s z t,fun _ e=>nomatch e⟩
  | int i =>
    obtain ⟨t,rfl⟩:=r
    cases (show T = "int" from ty)
    exact ⟨typeIs_int s i t,fun _ e=>nomatch e⟩
  | ref p =>
    cases r
    rcases ty with ⟨rfl,xs,hq⟩ | ⟨rfl,o,hk,hc,hd⟩ | ⟨rfl,hk⟩ | ⟨rfl,S,n,hk⟩
    · obtain ⟨its,_,pl,_⟩:=I.list hq
      refine ⟨pl.isList.typeIs,fun a e=>?_⟩
      cases e
      obtain ⟨o,n,e,c,hd,_⟩:=pl
      exact ⟨o,e,hd⟩
    · refine ⟨⟨o,I.mD p o hk,hc⟩,fun a e=>?_⟩
      cases e
      exact ⟨o,I.mD _ o hk,hd⟩
    · have z:∃ o,s.heap.get? p=some o∧o.ExactDict:=by
        rcases hk with ⟨kvs,hk⟩ | ⟨kvs,hk⟩
        · obtain ⟨_,_,_,_,o,_,_,e,ex,_⟩:=I.hok p _ hk
          exact ⟨o,e,ex⟩
        · obtain ⟨_,_,_,_,o,_,_,e,ex,_⟩:=I.hok p _ hk
          exact ⟨o,e,ex⟩
      obtain ⟨o,e,ex⟩:=z
      refine ⟨⟨o,e,ex.1⟩,fun a e2=>?_⟩
      cases e2
      exact ⟨o,e,ex.2.1⟩
    · obtain ⟨o,_,_,_,e,ex,_⟩:=I.hok p _ hk
      refine ⟨⟨o,e,ex.1⟩,fun a e2=>?_⟩
      cases e2
      exact ⟨o,e,ex.2.1⟩
  | _=>exact False.elim ty
def T4 (K:PySem.W.Frag) (T:String) (r:V→List V→Hp→VK→Prop) (to:TE):TE:=fun σ H Q=>to σ H fun x H1=>Tz K T x H1∧r x [] H1 Q
def Ve (K:PySem.W.Frag) (T:String) (r:V→List V→Hp→VK→Prop) (to:TE) (t:TA):TE:=fun σ H Q=>to σ H fun x H1=>Tz K T x H1∧t σ H1 fun xs H2=>r x xs H2 Q
variable {o e:Expr} {es:List Expr} {to:TE} {t:TA} {name:Str} {apos cpos:Pos} {T id:String} {r:V→List V→Hp→VK→Prop}
theorem pR (pa:PlainAttrs T) (slot:Slot T name id) (hty:typeOf (.builtin id)=pure (.type "method_descriptor")) (hm:PN X id r) (ho:PE X o to)
    (hbase:attributeBase o name X.env (eval o X.env)=eval o X.env:=by rfl) (hline:(apos.endLine==cpos.line)=true:=by rfl):PE X (.Call (.Attribute o name apos) [] [] cpos) (T4 X.K T r to):=by
  intro pins s σ H Q I h
  refine wpAny_Call_method0_late hbase hline (cP (ho pins s σ H _ I h) fun v s1 ⟨x,H1,I1,r1,ty,q1⟩=>?_)
  obtain ⟨h1,h2⟩:=HQ I1 r1 ty
  exact ⟨T,id,pa,slot,hty,h1,h2,Calls.callWith_builtin rfl (PySem.evalArgs_none (hm pins s1 σ H1 x [] v [] Q I1 r1 .nil q1))⟩
theorem iU (pa:PlainAttrs T) (slot:Slot T name id) (hty:typeOf (.builtin id)=pure (.type "method_descriptor")) (hm:PN X id r) (ho:PE X o to) (ha:PA X (e :: es) t)
    (hbase:attributeBase o name X.env (eval o X.env)=eval o X.env:=by rfl)
    (hfew:((backTo cpos (starEach (e :: es) X.env)).all (fun x=>!x.1) && (backToKw cpos (keywordEach [] X.env)).all (fun x=>x.1.isSome)
      && decide ((e :: es).length+([]:List Keyword).length+(if ([]:List Keyword).isEmpty then 0 else 1) < 30))=true:=by rfl)
    (hline:(apos.endLine==cpos.line)=true:=by rfl) (hs:starEach (e :: es) X.env=(false,eval e X.env) :: starEach es X.env:=by rfl) (hplain:(backTo cpos (starEach es X.env)).any (·.1)=false:=by rfl) :
    PE X (.Call (.Attribute o name apos) (e :: es) [] cpos) (Ve X.K T r to t):=by
  intro pins s σ H Q I h
  refine wpAny_Call_method_late hbase hfew hline rfl (cP (ho pins s σ H _ I h) fun v s1 ⟨x,H1,I1,r1,ty,q1⟩=>?_)
  obtain ⟨h1,h2⟩:=HQ I1 r1 ty
  refine ⟨T,id,pa,slot,hty,h1,h2,?_⟩
  have hA:=ha cpos pins s1 σ H1 _ I1 q1
  rw [hs] at hA ⊢
  refine Calls.callWith_builtin (by show (false || (backTo cpos (starEach es X.env)).any (·.1))=false; rw [hplain] <;> rfl) (Calls.evalArgs_plain ?_)
  exact cP hA fun us s2 ⟨vs,H2,I2,r2,q2⟩=>hm pins s2 σ H2 x vs v us Q I2 r1 r2 q2
/- xs.append(e),list.index on a module's tuple .. are PN facts of 06m -/
end
end L2
namespace L2
open PySem PySem.Spec PyProof.Rows
def S7 (X:Cx) (id:String) (r:V→List V→Hp→VK→Prop):Prop :=
  ∀ (pins:List (Addr×Obj)) (s:Shared) (σ:St) (H:Hp) (x:V) (xs:List V) (v:Value) (us:List Value) (Q:VK),Inv X pins σ H s→RelV x v→Vals xs us→r x xs H Q →
    wpAny (model X.prog X.w) X.A (call (.builtin id) (v :: us)) (EP X pins σ Q) X.xe s
theorem Vals.one:∀ {x:V} {us:List Value},Vals [x] us→∃ u,us=[u]∧RelV x u
  | _,_,.cons r .nil=>⟨_,rfl,r⟩
theorem Vals.zero:∀ {us:List Value},Vals [] us→us=[]
  | _,.nil=>rfl
theorem Vals.dropLast {xs:List V} {us:List Value} (h:Vals xs us):Vals xs.dropLast us.dropLast:=by
  induction h with
  | nil=>exact .nil
  | cons r t ih =>
    cases t with
    | nil=>exact .nil
    | cons q t'=>exact .cons r ih
theorem Vals.reverse {xs:List V} {us:List Value} (h:Vals xs us):Vals xs.reverse us.reverse:=by
  induction h with
  | nil=>exact .nil
  | cons r t ih=>rw [List.reverse_cons,List.reverse_cons]; exact Vals.append ih (.cons r .nil)
theorem BW {α:Type} (l:List α):l.eraseIdx (l.length - 1)=l.dropLast:=by
  induction l with
  | nil=>rfl
  | cons a r ih =>
    cases r with
    | nil=>rfl
    | cons b r =>
      have e:(a :: b :: r).length - 1=((b :: r).length - 1)+1:=by
        have h1:(a :: b :: r).length=r.length+2:=rfl
        have h2:(b :: r).length=r.length+1:=rfl
        omega
      rw [e,List.eraseIdx_cons_succ,ih]
      all_goals rfl
section
variable {X:Cx} {pins:List (Addr×Obj)} {σ:St} {H:Hp} {s:Shared} {l b:Addr} {xs ys zs:List V}
theorem Inv.J2 {its its':List Value} {n:Nat} {f:Array Value→Array Value} {t':Nat} (I:Inv X pins σ H s) (hH:H l=some (.lst xs))
    (e:s.heap.get? l=some { cls:=.type "list",data:=.seq its.toArray n }) (hf:f its.toArray=its'.toArray) (hv:Vals ys its') (hz:ys.length≤sizeLine) :
    Inv X pins σ (upd H l (.lst ys)) { s with heap:=s.heap.update l (Obj.mapSeq f),toks:=t' }:=by
  have q:=PySem.IsL.update e f
  rw [hf] at q
  refine I.write (x:=l) (e:=l) (by rw [hH]; exact trivial) (.inl rfl) (fun b' u hb hu=>(Heap.get?_update_other s.heap (Obj.mapSeq f) (Ne.symm hb)).trans hu) ⟨_,q⟩ ?_
  exact ⟨hz,its',_,hv,q⟩
theorem Inv.Uo {its:List Value} {t':Nat} (I:Inv X pins σ H s) (hv:Vals ys its) (hz:ys.length≤sizeLine) :
    Inv X pins σ (upd H s.heap.objs.size (.lst ys)) { s with heap:=s.heap.push { cls:=.type "list",data:=.seq its.toArray },toks:=t' } :=
  I.laid (fun _ _ q=>Heap.get?_push_of_some _ q) (Nat.le_refl _) ⟨hz,its,0,hv,Heap.get?_push_size _ rfl⟩
theorem Inv.fresh (I:Inv X pins σ H s):H s.heap.objs.size=none:=I.hok.fresh (Nat.le_refl _)
theorem Inv.zg (I:Inv X pins σ H s) (hH:H l=some (.lst xs)):xs.length≤sizeLine∧∃ (its:List Value) (n:Nat),Vals xs its∧xs.length=its.length∧s.heap.get? l=some { cls:=.type "list",data:=.seq its.toArray n }:=by
  obtain ⟨z,its,n,r,e⟩:=I.hok l _ hH
  exact ⟨z,its,n,r,r.length,e⟩
theorem yX {n:Nat} (h:n≤sizeLine):Builtin.List.listTooLong n=false:=by
  unfold Builtin.List.listTooLong
  exact decide_eq_false (by omega)
end
section
variable {X:Cx}
def Ms:V→List V→Hp→VK→Prop:=fun x vs H Q=>∃ l xs y,x=.ref l∧vs=[y]∧H l=some (.lst xs)∧xs.length < sizeLine∧Q .non (upd H l (.lst (xs++[y])))
theorem f9:S7 X "list.append" Ms:=by
  intro pins s σ H x vs v us Q I rx rv h
  obtain ⟨l,xs,y,rfl,rfl,hH,hz,q⟩:=h
  cases rx
  obtain ⟨u,rfl,ru⟩:=rv.one
  obtain ⟨z,its,n,r,hl,e⟩:=I.zg hH
  refine call_meets F.slot_list_append ⟨_,e,rfl⟩ F.entry_list_append (F.args_list_append_2 _ _) (PySem.list_append l its.toArray n u (by rw [List.size_toArray]; omega)) ⟨e,?_⟩
  refine ⟨.non,_,I.J2 (its':=its++[u]) hH e (by simp) (r.append (.cons ru .nil)) ?_,rfl,q⟩
  rw [List.length_append,List.length_singleton]
  omega
def Mq:V→List V→Hp→VK→Prop:=fun x vs H Q=>∃ l b xs zs,x=.ref l∧vs=[.ref b]∧H l=some (.lst xs)∧H b=some (.lst zs)∧xs.length+zs.length≤sizeLine∧Q .non (upd H l (.lst (xs++zs)))
theorem pX:S7 X "list.extend" Mq:=by
  intro pins s σ H x vs v us Q I rx rv h
  obtain ⟨l,b,xs,zs,rfl,rfl,hH,hB,hz,q⟩:=h
  cases rx
  obtain ⟨u,rfl,ru⟩:=rv.one
  cases ru
  obtain ⟨z,its,n,r,hl,e⟩:=I.zg hH
  obtain ⟨z2,its2,n2,r2,hl2,e2⟩:=I.zg hB
  have hsz:its.toArray.size+its2.toArray.size≤sizeLine:=by rw [List.size_toArray,List.size_toArray]; omega
  have hlong:¬ (!its.toArray.isEmpty && Builtin.List.listTooLong (its.toArray.size+its2.toArray.size))=true:=by
    rw [yX hsz,Bool.and_false]
    exact Bool.false_ne_true
  refine call_meets F.slot_list_extend ⟨_,e,rfl⟩ F.entry_list_extend (F.args_list_extend_2 _ _)
    (AutoSeq1.list_extend_list_list_0 l its.toArray n b its2.toArray n2 hlong (by rw [List.size_toArray]; omega) (by omega)) ⟨e,e2,?_⟩
  refine ⟨.non,_,I.J2 (its':=its++its2) hH e (by simp) (r.append r2) ?_,rfl,q⟩
  rw [List.length_append]
  omega
def Ua:V→List V→Hp→VK→Prop:=fun x vs H Q=>∃ l xs y,x=.ref l∧vs=[]∧H l=some (.lst xs)∧xs[xs.length - 1]?=some y∧Q y (upd H l (.lst xs.dropLast))
theorem xK:S7 X "list.pop" Ua:=by
  intro pins s σ H x vs v us Q I rx rv h
  obtain ⟨l,xs,y,rfl,rfl,hH,hy,q⟩:=h
  cases rx
  have hus:=rv.zero
  subst hus
  obtain ⟨z,its,n,r,hl,e⟩:=I.zg hH
  obtain ⟨u,hu,ru⟩:=r.get hy
  have hy':its.toArray[its.toArray.size - 1]?=some u:=by
    show its.toArray[its.length - 1]?=some u
    rw [← Array.getElem?_toList,← hl]
    exact hu
  refine call_meets F.slot_list_pop ⟨_,e,rfl⟩ F.entry_list_pop (F.args_list_pop_1 _) (MeetsSeq.list_pop_last l its.toArray n u hy' (by rw [List.size_toArray]; omega)) ⟨e,?_⟩
  refine ⟨y,_,I.J2 (its':=its.dropLast) hH e ?_ r.dropLast ?_,ru,q⟩
  · show its.toArray.eraseIdxIfInBounds (its.toArray.size - 1)=its.dropLast.toArray
    rw [List.size_toArray,List.eraseIdxIfInBounds_toArray,BW]
  · rw [List.length_dropLast]
    omega
def Jp:V→List V→Hp→VK→Prop:=fun x vs H Q=>∃ l xs,x=.ref l∧vs=[]∧H l=some (.lst xs)∧Q .non (upd H l (.lst xs.reverse))
theorem Bp:S7 X "list.reverse" Jp:=by
  intro pins s σ H x vs v us Q I rx rv h
  obtain ⟨l,xs,rfl,rfl,hH,q⟩:=h
  cases rx
  have hus:=rv.zero
  subst hus
  obtain ⟨z,its,n,r,hl,e⟩:=I.zg hH
  refine call_meets F.slot_list_reverse ⟨_,e,rfl⟩ F.entry_list_reverse (F.args_list_reverse_1 _) (AutoSeq1.list_reverse_list_0 l its.toArray n (by rw [List.size_toArray]; omega)) ⟨e,?_⟩
  refine ⟨.non,_,I.J2 (its':=its.reverse) hH e (by simp) r.reverse ?_,rfl,q⟩
  rw [List.length_reverse]
  omega
def Uc:R2:=fun x y H Q=>∃ l b xs zs,x=.ref l∧y=.ref b∧H l=some (.lst xs)∧H b=some (.lst zs)∧xs.length+zs.length≤sizeLine∧∀ p,H p=none→Q (.ref p) (upd H p (.lst (xs++zs)))
theorem Bk:u0 X (binaryOp .Add) Uc:=by
  intro pins s σ H x y v u Q I rx ry h
  obtain ⟨l,b,xs,zs,rfl,rfl,hH,hB,hz,q⟩:=h
  cases rx
  cases ry
  obtain ⟨z,its,n,r,hl,e⟩:=I.zg hH
  obtain ⟨z2,its2,n2,r2,hl2,e2⟩:=I.zg hB
  refine PySem.P.add_list e e2 ?_ (by rw [List.size_toArray,List.size_toArray]; omega)
  have ea:its.toArray++its2.toArray=(its++its2).toArray:=by simp
  rw [ea]
  exact ⟨.ref _,_,I.Uo (t':=s.toks) (r.append r2) (by rw [List.length_append]; omega),rfl,q _ I.fresh⟩
end
section
variable {prog:Program} {w:World} {A:Around} {E:Value→Shared→Prop} {s:Shared}
set_option maxRecDepth 100000 in
end
section
variable {X:Cx}
end
end L2
namespace L2
open PySem PySem.Spec PyProof.Rows
theorem Vals.ints:∀ {ns:List Int} {us:List Value},Vals (ns.map V.int) us→IntsAre us ns
  | [],us,h=>by
    rw [List.map_nil] at h
    cases h
    exact IntsAre.nil
  | n :: ns,us,h=>by
    rw [List.map_cons] at h
    cases h with
    | cons r t =>
      obtain ⟨k,rfl⟩:=r
      exact IntsAre.cons n k (Vals.ints t)
theorem Vals.R4 {a:Addr} {us:List Value} (r:Vals [V.ref a] us):us=[Value.ref a]:=by
  cases r with
  | cons r t =>
    cases t
    cases r
    rfl
section
variable {prog:Program} {w:World} {A:Around} {E:Value→Shared→Prop} {s:Shared} {l:Addr} {its:List Value} {ns:List Int} {Q:Value→Shared→Prop}
end
section
variable {X:Cx}
end
section
variable {X:Cx}
end
section
variable {X:Cx}
end
section
variable {X:Cx}
end
mutual
inductive Dp (K:PySem.W.Frag) (H:Hp):V→PyData→Prop
  | non:Dp K H .non .none
  | bl (b:Bool):Dp K H (.bl b) (.bool b)
  | int (i:Int):Dp K H (.int i) (.int i)
  | str (x:Str):Dp K H (.str x) (.str x)
  | lst {a:Addr} {xs:List V} {ds:List PyData}:bG K H a xs→u5 K H xs ds→Dp K H (.ref a) (.list ds)
  | tup {a:Addr} {xs:List V} {ds:List PyData}:dY K H a xs→u5 K H xs ds→Dp K H (.ref a) (.tuple ds)
inductive u5 (K:PySem.W.Frag) (H:Hp):List V→List PyData→Prop
  | nil:u5 K H [] []
  | cons {v:V} {vs:List V} {d:PyData} {ds:List PyData}:Dp K H v d→u5 K H vs ds→u5 K H (v :: vs) (d :: ds)
end
section
variable {X:Cx} {pins:List (Addr×Obj)} {σ:St} {H:Hp} {s:Shared}
mutual
theorem Dp.reads (I:Inv X pins σ H s):∀ (d:PyData) (v:V) (u:Value),Dp X.K H v d→RelV v u→∃ as,Reads s.heap u d as
  | .none,_,_,h,r=>by
    cases h
    cases r
    exact ⟨_,Reads.none⟩
  | .bool b,_,_,h,r=>by
    cases h
    cases r
    exact ⟨_,Reads.bool b⟩
  | .int i,_,_,h,r=>by
    cases h
    obtain ⟨t,rfl⟩:=r
    exact ⟨_,Reads.int i t⟩
  | .str x,_,_,h,r=>by
    cases h
    obtain ⟨t,rfl⟩:=r
    exact ⟨_,Reads.str x t⟩
  | .list ds,_,_,h,r=>by
    cases h with
    | lst hs ha =>
      cases r
      obtain ⟨its,rv,⟨o,n,ho,hc,_,hd⟩,_⟩:=I.list hs
      obtain ⟨as,hr⟩:=Dp.readsAll I ds _ its ha rv
      exact ⟨_,Reads.list ho hc hd hr⟩
  | .tuple ds,_,_,h,r=>by
    cases h with
    | tup hs ha =>
      cases r
      obtain ⟨its,rv,⟨o,ho,hc,n,hd⟩,_⟩:=I.tuple hs
      obtain ⟨as,hr⟩:=Dp.readsAll I ds _ its ha rv
      exact ⟨_,Reads.tuple ho hc hd hr⟩
  | .dict _,_,_,h,_=>by cases h
theorem Dp.readsAll (I:Inv X pins σ H s):∀ (ds:List PyData) (vs:List V) (us:List Value),u5 X.K H vs ds→Vals vs us→∃ as,ReadsAll s.heap us ds as
  | [],_,_,h,r=>by
    cases h
    cases r
    exact ⟨_,ReadsAll.nil⟩
  | d :: ds,_,_,h,r=>by
    cases h with
    | cons h1 h2 =>
      cases r with
      | cons r1 r2 =>
        obtain ⟨as,q1⟩:=Dp.reads I d _ _ h1 r1
        obtain ⟨bs,q2⟩:=Dp.readsAll I ds _ _ h2 r2
        exact ⟨_,ReadsAll.cons q1 q2⟩
end
end
section
variable {X:Cx}
def Ub (K:PySem.W.Frag):R2:=fun x y H Q=>∃ d e,Dp K H x d∧Dp K H y e∧SeqAt.shaped d=true∧SeqAt.shaped e=true∧Q (.bl (PyData.eqv d e)) H
theorem JG (hu:X.A.units+64 < cLine):u0 X (compareOp .Eq) (Ub X.K):=by
  intro pins s σ H x y v u Q I rx ry h
  obtain ⟨d,e,hd,he,sd,se,q⟩:=h
  obtain ⟨as,r1⟩:=Dp.reads I d x v hd rx
  obtain ⟨bs,r2⟩:=Dp.reads I e y u he ry
  exact SeqAt.compareEq_shaped r1 r2 sd se hu ⟨.bl _,H,I,rfl,q⟩
end
end L2
namespace L2
open PySem PySem.Spec PyProof.Rows
abbrev Le (h:Heap) (c:Addr) (v:Option Value):Prop:=h.IsCell c v
def T8 (scope sc:Scope):Scope :=
  { scope with names:=scope.names.map fun (n,k)=>if (k==.free && sc.kind==.function && sc.names.lookup n==some .cell) then (n,.cell) else (n,k) }
def bZ (cells:List (Str×Addr)):List (Str×NameKind)→List (Str×Addr)→List (Str×Addr)
  | [],acc=>acc
  | (n,k) :: r,acc=>if k==.free then bZ cells r ((n,(cells.lookup n).getD 0) :: acc) else bZ cells r acc
theorem oX (env:Env) (f:Str×NameKind→List (Str×Addr)→Sem (ForInStep (List (Str×Addr))))
    (hf:∀ n k c,f (n,k) c=if k==.free then (do let a ← cellOf env n; pure (.yield ((n,a) :: c))) else pure (.yield c)) :
    ∀ (names:List (Str×NameKind)) (acc:List (Str×Addr)),(∀ y∈names,y.2=.free→∃ c,env.cells.lookup y.1=some c)→forIn names acc f=pure (bZ env.cells names acc)
  | [],acc,_=>by rw [List.forIn_nil]; rfl
  | (n,k) :: r,acc,h=>by
    rw [List.forIn_cons,hf]
    have ih:=fun acc=>oX env f hf r acc fun y hy=>h y (List.mem_cons_of_mem _ hy)
    unfold bZ
    by_cases hk:(k==NameKind.free)=true
    · rw [if_pos hk,if_pos hk]
      obtain ⟨c,hc⟩:=h (n,k) List.mem_cons_self (by simpa using hk)
      have e:cellOf env n=pure c:=by unfold cellOf; rw [hc]
      rw [e]
      have e2:(env.cells.lookup n).getD 0=c:=by rw [hc]; rfl
      rw [e2]
      exact ih _
    · rw [if_neg hk,if_neg hk]
      exact ih _
theorem BX {scope:Scope} {env:Env} (h:∀ y∈scope.names,y.2=.free→∃ c,env.cells.lookup y.1=some c):closureFor scope env=pure (bZ env.cells scope.names []):=by
  simp only [closureFor]
  rw [oX env _ (fun n k c=>rfl) scope.names [] h]
  rfl
theorem mem_lookup {α:Type}:∀ {l:List (Str×α)} {n:Str} {c:α},(n,c)∈l→∃ c',l.lookup n=some c'
  | (k,v) :: r,n,c,h=>by
    rw [List.lookup_cons]
    cases hb:n==k with
    | true=>exact ⟨_,rfl⟩
    | false =>
      rcases List.mem_cons.mp h with e | h
      · cases e; simp at hb
      · exact mem_lookup h
theorem iz {cells:List (Str×Addr)}:∀ {names:List (Str×NameKind)} {acc:List (Str×Addr)} {n:Str} {c:Addr},(n,c)∈bZ cells names acc→(n,c)∈acc∨((n,.free)∈names∧c=(cells.lookup n).getD 0)
  | [],_,_,_,h=>.inl h
  | (m,k) :: r,acc,n,c,h=>by
    unfold bZ at h
    split at h
    · rename_i hk
      have hk:k=.free:=by simpa using hk
      rcases iz h with h | ⟨h1,h2⟩
      · rcases List.mem_cons.mp h with e | h
        · cases e; exact .inr ⟨hk ▸ List.mem_cons_self,rfl⟩
        · exact .inl h
      · exact .inr ⟨List.mem_cons_of_mem _ h1,h2⟩
    · rcases iz h with h | ⟨h1,h2⟩
      · exact .inl h
      · exact .inr ⟨List.mem_cons_of_mem _ h1,h2⟩
theorem j9 {cells:List (Str×Addr)}:∀ {names:List (Str×NameKind)} {acc:List (Str×Addr)} {p:Str×Addr},p∈acc→p∈bZ cells names acc
  | [],_,_,h=>h
  | (m,k) :: r,acc,p,h=>by
    unfold bZ
    split
    · exact j9 (List.mem_cons_of_mem _ h)
    · exact j9 h
theorem j8 {cells:List (Str×Addr)}:∀ {names:List (Str×NameKind)} {acc:List (Str×Addr)} {n:Str},(n,.free)∈names→(n,(cells.lookup n).getD 0)∈bZ cells names acc
  | (m,k) :: r,acc,n,h=>by
    unfold bZ
    rcases List.mem_cons.mp h with e | h
    · cases e
      exact j9 List.mem_cons_self
    · split
      · exact j8 h
      · exact j8 h
theorem iW:∀ {names:List (Str×NameKind)} {h:Heap} {acc:List (Str×Addr)} {x:Str} {c:Addr},(x,c)∈cellsFrom h.objs.size names acc →
    (x,c)∈acc∨((x,.cell)∈names∧h.objs.size≤c∧Le (pushCells h names) c none)
  | [],_,_,_,_,h=>.inl h
  | (n,k) :: r,h,acc,x,c,hm=>by
    unfold cellsFrom at hm
    unfold pushCells
    split at hm
    · rename_i hk
      rw [if_pos hk]
      have hk:k=.cell:=by simpa using hk
      rw [← Heap.size_push h { cls:=.type "cell",data:=.cell none }] at hm
      rcases iW hm with hm | ⟨h1,h2,h3⟩
      · rcases List.mem_cons.mp hm with e | hm
        · cases e
          exact .inr ⟨hk ▸ List.mem_cons_self,Nat.le_refl _,_,pushCells_keeps r _ _ _ (Heap.get?_push_size _ rfl),rfl⟩
        · exact .inl hm
      · rw [Heap.size_push] at h2
        exact .inr ⟨List.mem_cons_of_mem _ h1,Nat.le_of_succ_le h2,h3⟩
    · rename_i hk
      rw [if_neg hk]
      rcases iW hm with hm | ⟨h1,h2,h3⟩
      · exact .inl hm
      · exact .inr ⟨List.mem_cons_of_mem _ h1,h2,h3⟩
theorem lD:∀ {names:List (Str×NameKind)} {n:Nat} {acc:List (Str×Addr)} {p:Str×Addr},p∈acc→p∈cellsFrom n names acc
  | [],_,_,_,h=>h
  | (m,k) :: r,n,acc,p,h=>by
    unfold cellsFrom
    split
    · exact lD (List.mem_cons_of_mem _ h)
    · exact lD h
theorem qw:∀ {names:List (Str×NameKind)} {n:Nat} {acc:List (Str×Addr)} {x:Str},(x,.cell)∈names→∃ c,(x,c)∈cellsFrom n names acc
  | (m,k) :: r,n,acc,x,h=>by
    unfold cellsFrom
    rcases List.mem_cons.mp h with e | h
    · cases e
      exact ⟨n,lD List.mem_cons_self⟩
    · split
      · exact qw h
      · exact qw h
theorem qu:∀ {names:List (Str×NameKind)} {h:Heap} {acc:List (Str×Addr)} {x y:Str} {c:Addr},(∀ p∈acc,p.2 < h.objs.size)→(∀ x y c,(x,c)∈acc→(y,c)∈acc→x=y) →
    (x,c)∈cellsFrom h.objs.size names acc→(y,c)∈cellsFrom h.objs.size names acc→x=y
  | [],_,_,_,_,_,_,hi,h1,h2=>hi _ _ _ h1 h2
  | (n,k) :: r,h,acc,x,y,c,hl,hi,h1,h2=>by
    unfold cellsFrom at h1 h2
    split at h1
    · rename_i hk
      rw [if_pos hk] at h2
      rw [← Heap.size_push h { cls:=.type "cell",data:=.cell none }] at h1 h2
      refine qu (h:=h.push _) (fun p hp=>?_) (fun x y c a b=>?_) h1 h2
      · rw [Heap.size_push]
        rcases List.mem_cons.mp hp with rfl | hp
        · exact Nat.lt_succ_self _
        · exact Nat.lt_succ_of_lt (hl p hp)
      · rcases List.mem_cons.mp a with e | a <;> rcases List.mem_cons.mp b with e' | b
        · cases e; cases e'; rfl
        · cases e; exact absurd (hl _ b) (Nat.lt_irrefl _)
        · cases e'; exact absurd (hl _ a) (Nat.lt_irrefl _)
        · exact hi _ _ _ a b
    · rename_i hk
      rw [if_neg hk] at h2
      exact qu hl hi h1 h2
theorem yZ {M:Model} {A:Around} {E:Value→Shared→Prop} {s:Shared} {scope:Scope} {globals:Addr} {closure:List (Str×Addr)} {qual:Str} {func:Option Addr} {code:Value} {around:Env} {builtins:Addr} {Q:Env→Shared→Prop}
    (h:Q (newEnv scope s.heap.objs.size globals (cellsFrom (s.heap.objs.size+1) scope.names closure) qual func code (some around) builtins)
      { s with heap:=pushCells (s.heap.push { cls:=.type "dict",data:=.dict #[] }) scope.names }) :
    wpAny M A (newFunctionEnv scope globals closure [] qual func code (some around) builtins) Q E s:=by
  simp only [newFunctionEnv,Option.isSome_some,if_true]
  refine wpAny_bind (wpAny_alloc ?_)
  refine wpAny_bind (wpAny_layCells _ (fun n k c=>rfl) scope.names closure _ _ ?_)
  rw [show ({ s with heap:=s.heap.push { cls:=.type "dict",data:=.dict #[] } }:Shared).heap.objs.size=s.heap.objs.size+1 from Heap.size_push ..]
  rw [List.forIn_nil]
  exact wpAny_bind (wpAny_pure (wpAny_pure h))
theorem j4 {sc:Scope}:∀ {names:List (Str×NameKind)} {x:Str} {k:NameKind},
    (names.map fun (n,k)=>if (k==NameKind.free && sc.kind==.function && sc.names.lookup n==some .cell) then (n,NameKind.cell) else (n,k)).lookup x=some k →
    ∃ k',names.lookup x=some k'∧(k=k'∨(k'=.free∧k=.cell))
  | [],_,_,h=>by simp at h
  | (n,k₀) :: r,x,k,h=>by
    have ih:=@j4 sc r x k
    have h':List.lookup x ((if (k₀==NameKind.free && sc.kind==.function && sc.names.lookup n==some .cell)=true then (n,NameKind.cell) else (n,k₀)) :: (r.map _))=some k:=h
    cases hx:x==n with
    | true =>
      simp only [List.lookup_cons,hx]
      by_cases hc:(k₀==NameKind.free && sc.kind==.function && sc.names.lookup n==some .cell)=true
      · rw [if_pos hc] at h'
        simp only [List.lookup_cons,hx] at h'
        cases h'
        simp only [Bool.and_eq_true,beq_iff_eq] at hc
        exact ⟨k₀,rfl,.inr ⟨hc.1.1,rfl⟩⟩
      · rw [if_neg hc] at h'
        simp only [List.lookup_cons,hx] at h'
        cases h'
        exact ⟨_,rfl,.inl rfl⟩
    | false =>
      simp only [List.lookup_cons,hx]
      by_cases hc:(k₀==NameKind.free && sc.kind==.function && sc.names.lookup n==some .cell)=true
      · rw [if_pos hc] at h'
        simp only [List.lookup_cons,hx] at h'
        exact ih h'
      · rw [if_neg hc] at h'
        simp only [List.lookup_cons,hx] at h'
        exact ih h'
structure zY (N:List Str) (sc scope:Scope) (own:List (Str×Nat)):Prop where
  kind:scope.kind=.function
  uniq:∀ y∈scope.names,scope.names.lookup y.1=some y.2
  ix:∀ p∈own,N[p.2]?=some p.1
  free:∀ y∈scope.names,y.2=.free→sc.names.lookup y.1=some .cell∨sc.names.lookup y.1=some .free
  own:∀ y∈scope.names,y.2=.local∨y.2=.cell→y.1∈own.map (·.1)∨y.1∉N
def wipe (σ:St):List Nat→St
  | []=>σ
  | v :: vs=>(wipe σ vs).set v none
theorem jG (σ:St):∀ vs:List Nat,(wipe σ vs).length=σ.length
  | []=>rfl
  | v :: vs=>by unfold wipe; rw [List.length_set,jG σ vs]
theorem o_ {σ:St} {i:Nat} {x:V}:∀ {vs:List Nat},(wipe σ vs)[i]?=some (some x)→σ[i]?=some (some x)∧i∉vs
  | [],h=>⟨h,by simp⟩
  | v :: vs,h=>by
    unfold wipe at h
    by_cases hi:v=i
    · subst hi
      by_cases hv:v < (wipe σ vs).length
      · rw [List.getElem?_set_self hv] at h; cases h
      · rw [List.getElem?_eq_none (by simpa using hv)] at h; cases h
    · rw [List.getElem?_set_ne hi] at h
      obtain ⟨h1,h2⟩:=o_ h
      exact ⟨h1,by simp only [List.mem_cons,not_or]; exact ⟨fun e=>hi e.symm,h2⟩⟩
abbrev Cx.blk (X:Cx) (s:Shared) (H:Hp) (scope:Scope) (cenv:Env) (fp:List Addr):Cx:={ X with s_0:=s,H_0:=H,env:=cenv,outer:=X.stack,ex:=fp,fn:=fun x=>scope.names.lookup x==some .cell,pn:=[],xe:=fun _ _=>False }
section
variable {X:Cx} {pins:List (Addr×Obj)} {σ:St} {H:Hp} {s:Shared}
theorem zQ {scope:Scope} {own:List (Str×Nat)} {fp:List Addr} (I:Inv X pins σ H s) (ok:zY X.N X.env.scope scope own) (hN:X.N.Nodup) (hfp:∀ b∈fp,rQ X pins H b∧b < s.heap.objs.size) :
    Inv (X.blk s H scope (compEnvC scope (cellsFrom (s.heap.objs.size+1) scope.names (bZ X.env.cells scope.names [])) s.heap.objs.size X.env) fp) [] (wipe σ (own.map (·.2))) H { s with heap:=pushCells (s.heap.push { cls:=.type "dict",data:=.dict #[] }) scope.names }:=by
  have hfree:∀ y∈scope.names,y.2=.free→∃ c,X.env.cells.lookup y.1=some c:=fun y hy e=>by
    rcases ok.free y hy e with k | k
    · exact I.ok.has _ (.inl k)
    · exact I.ok.has _ (.inr k)
  generalize hcenv:compEnvC scope (cellsFrom (s.heap.objs.size+1) scope.names (bZ X.env.cells scope.names [])) s.heap.objs.size X.env=cenv
  have kp:∀ b o,s.heap.get? b=some o→(pushCells (s.heap.push { cls:=.type "dict",data:=.dict #[] }) scope.names).get? b=some o:=fun b o e=>pushCells_keeps _ _ _ _ (Heap.get?_push_of_some _ e)
  have hL:cenv.locals=s.heap.objs.size:=by rw [← hcenv]; rfl
  have hcl:cenv.cells=cellsFrom (s.heap.objs.size+1) scope.names (bZ X.env.cells scope.names []):=by rw [← hcenv]; rfl
  have hsc:cenv.scope=T8 scope X.env.scope:=by rw [← hcenv]; rfl
  rw [← Heap.size_push s.heap { cls:=.type "dict",data:=.dict #[] }] at hcl
  have cm:∀ {y c},(y,c)∈bZ X.env.cells scope.names []→X.env.cells.lookup y=some c∧c < s.heap.objs.size:=fun {y c} hm=>by
    rcases iz hm with hm | ⟨h1,rfl⟩
    · cases hm
    · obtain ⟨c,hc⟩:=hfree _ h1 rfl
      rw [hc]
      obtain ⟨w,z⟩:=I.cell _ _ hc
      exact ⟨rfl,z.lt⟩
  have mem:∀ {y c},cenv.cells.lookup y=some c→(X.env.cells.lookup y=some c∧c < s.heap.objs.size)∨(s.heap.objs.size+1≤c∧Le (pushCells (s.heap.push { cls:=.type "dict",data:=.dict #[] }) scope.names) c none):=fun {y c} e=>by
    rw [hcl] at e
    rcases iW (PySem.mem_of_lookup e) with hm | ⟨_,h2,h3⟩
    · exact .inl (cm hm)
    · rw [Heap.size_push] at h2; exact .inr ⟨h2,h3⟩
  have look:∀ {y},scope.names.lookup y=some .free→∃ c,cenv.cells.lookup y=some c∧X.env.cells.lookup y=some c:=fun {y} hl=>by
    have hy:(y,NameKind.free)∈scope.names:=PySem.mem_of_lookup hl
    obtain ⟨c',e'⟩:=mem_lookup (lD (names:=scope.names) (n:=(s.heap.push { cls:=.type "dict",data:=.dict #[] }).objs.size) (j8 (cells:=X.env.cells) (acc:=[]) hy))
    rw [← hcl] at e'
    refine ⟨c',e',?_⟩
    rw [hcl] at e'
    rcases iW (PySem.mem_of_lookup e') with hm | ⟨h1,_,_⟩
    · exact (cm hm).1
    · have:=ok.uniq _ h1
      rw [hl] at this; cases this
  have okB:(X.blk s H scope cenv fp).Ok:=by
    refine ⟨I.ok.mod,by show cenv.scope.kind=_; rw [hsc]; exact ok.kind,by show cenv.globals=_; rw [← hcenv]; exact I.ok.glob,by show cenv.builtins=_; rw [← hcenv]; exact I.ok.blt,by show s.heap.objs.size≤cenv.locals; rw [hL]; exact Nat.le_refl _,
      fun y z c e1 e2=>?_,fun y hy=>?_,fun y c z e=>?_,I.ok.hd,I.ok.frames,.inl rfl,fun b hb=>⟨?_,fun y c e z=>?_⟩,I.bs,Nat.le_trans I.ok.bsz I.sz,fun b o e hb=>?_,fun b hb z=>?_,I.stack,I.ni⟩
    · have e1:cenv.cells.lookup y=some c:=e1
      have e2:cenv.cells.lookup z=some c:=e2
      rw [hcl] at e1 e2
      refine qu (fun p hp=>?_) (fun y z c a b=>I.ok.inj y z c (cm a).1 (cm b).1) (PySem.mem_of_lookup e1) (PySem.mem_of_lookup e2)
      rw [Heap.size_push]
      exact Nat.lt_succ_of_lt (cm (y:=p.1) (c:=p.2) hp).2
    · show ∃ c,cenv.cells.lookup y=some c
      have key:∀ k,cenv.kindOf y=some k→(k=.cell∨k=.free)→∃ c,cenv.cells.lookup y=some c:=fun k hk hk'=>by
        unfold Env.kindOf at hk
        rw [hsc] at hk
        obtain ⟨k',e,r⟩:=j4 hk
        have:k'=.cell∨k'=.free:=by
          rcases r with rfl | ⟨rfl,_⟩
          · exact hk'
          · exact .inr rfl
        rcases this with rfl | rfl
        · obtain ⟨c,hm⟩:=qw (n:=(s.heap.push { cls:=.type "dict",data:=.dict #[] }).objs.size) (acc:=bZ X.env.cells scope.names []) (PySem.mem_of_lookup e)
          obtain ⟨c',e'⟩:=mem_lookup hm
          exact ⟨c',by rw [hcl]; exact e'⟩
        · obtain ⟨c,h1,_⟩:=look e
          exact ⟨c,h1⟩
      rcases hy with hy | hy
      · exact key _ hy (.inl rfl)
      · exact key _ hy (.inr rfl)
    · have z:(scope.names.lookup y==some NameKind.cell)=true:=z
      have z:scope.names.lookup y=some .cell:=by simpa using z
      have e:cenv.cells.lookup y=some c:=e
      rw [hcl] at e
      rcases iW (PySem.mem_of_lookup e) with hm | ⟨_,h2,_⟩
      · rcases iz hm with hm | ⟨h1,_⟩
        · cases hm
        · have q:=ok.uniq _ h1
          rw [z] at q; cases q
      · rw [Heap.size_push] at h2
        exact Nat.le_of_succ_le h2
    · show b≠cenv.locals
      rw [hL]; exact Nat.ne_of_lt (hfp b hb).2
    · have e:cenv.cells.lookup y=some c:=e
      rcases mem e with ⟨h1,_⟩ | ⟨h1,_⟩
      · exact (hfp b hb).1.2.2.2.2.1 y c h1 z
      · have h2:s.heap.objs.size+1≤b:=by rw [← z]; exact h1
        exact absurd (Nat.lt_of_lt_of_le (hfp b hb).2 (Nat.le_of_succ_le h2)) (Nat.lt_irrefl _)
    · rcases (hfp b hb).1.2.2.2.1 with z | z
      · exact I.ok.noex b o e z
      · exact absurd (Nat.lt_of_lt_of_le (Heap.lt_size e) (Nat.le_trans I.ok.bsz z)) (Nat.lt_irrefl _)
    · rcases List.mem_cons.mp (I.Aj b z) with z | z
      · exact (hfp b hb).1.2.1 z
      · exact (hfp b hb).1.2.2.1 z
  refine ⟨okB,rfl,I.bare,Un.kept kp,⟨fun _=>none,?_,fun i y av e1 e2 e3=>?_⟩,fun y c e=>?_,?_,fun y c e=>?_,fun p hp=>?_,I.hok.kept kp,by rw [jG]; exact I.len⟩
  · show Heap.Ns _ cenv.locals _
    rw [hL]
    exact Heap.Ns.keeps (Heap.Ns.new ..) fun b o e=>pushCells_keeps _ _ _ _ e
  · obtain ⟨e2,hne⟩:=o_ e2
    have hfr:scope.names.lookup y=some .free∧(cenv.kindOf y=some .cell∨cenv.kindOf y=some .free):=by
      have key:∀ k,cenv.scope.names.lookup y=some k→k=.local∨k=.cell∨k=.free→scope.names.lookup y=some .free∧(cenv.kindOf y=some .cell∨cenv.kindOf y=some .free):=fun k hk hk'=>by
        have hk0:=hk
        rw [hsc] at hk
        obtain ⟨k',e,r⟩:=j4 hk
        have no:¬ (k'=.local∨k'=.cell):=fun hh=>by
          rcases ok.own _ (PySem.mem_of_lookup e) hh with e' | e'
          · obtain ⟨p,hp,hpy⟩:=List.mem_map.mp e'
            have e3:=ok.ix p hp
            have:p.1=y:=hpy
            rw [this] at e3
            exact hne (List.mem_map.mpr ⟨p,hp,uw hN e3 e1⟩)
          · exact e' (List.mem_of_getElem? e1)
        rcases r with rfl | ⟨rfl,rfl⟩
        · rcases hk' with rfl | rfl | rfl
          · exact absurd (.inl rfl) no
          · exact absurd (.inr rfl) no
          · exact ⟨e,.inr hk0⟩
        · exact ⟨e,.inl hk0⟩
      have e3:RL cenv.scope y:=e3
      rcases e3 with e3 | e3 | e3
      · exact key _ e3 (.inl rfl)
      · exact key _ e3 (.inr (.inl rfl))
      · exact key _ e3 (.inr (.inr rfl))
    obtain ⟨m,hn,hl⟩:=I.loc
    have hvis:RL X.env.scope y:=(ok.free _ (PySem.mem_of_lookup hfr.1) rfl).elim (fun k=>.inr (.inl k)) (fun k=>.inr (.inr k))
    obtain ⟨w,r,q⟩:=hl i y av e1 e2 hvis
    refine ⟨w,r,.inr ⟨hfr.2,?_⟩⟩
    obtain ⟨c,h1,h2⟩:=look hfr.1
    rcases q with ⟨k,_⟩ | ⟨_,c',e',z⟩
    · have k:X.env.scope.names.lookup y=some .local:=k
      rcases ok.free _ (PySem.mem_of_lookup hfr.1) rfl with k' | k' <;> rw [show X.env.scope.names.lookup y=_ from k'] at k <;> cases k
    · rw [h2] at e'; cases e'
      exact ⟨c,h1,z.keeps kp⟩
  · have e:cenv.cells.lookup y=some c:=e
    rcases mem e with ⟨h1,_⟩ | ⟨_,z⟩
    · obtain ⟨w,z⟩:=I.cell y c h1
      exact ⟨w,z.keeps kp⟩
    · exact ⟨_,z⟩
  · show H cenv.locals=none
    rw [hL]; exact I.hok.fresh (Nat.le_refl _)
  · have e:cenv.cells.lookup y=some c:=e
    rcases mem e with ⟨h1,_⟩ | ⟨h1,_⟩
    · exact I.freeC y c h1
    · exact I.hok.fresh (Nat.le_of_succ_le h1)
  · exact absurd (show p∈([]:List (Addr×Obj))++[] from hp) (by simp)
theorem Rn {E:Value→Shared→Prop} {D:Addr} {xs:List V} {y:V} {v:Value} {Q:Value→Shared→Prop} (I:Inv X pins σ H s) (hD:H D=some (.lst xs)) (hz:xs.length < sizeLine) (r:RelV y v)
    (h:∀ s',Inv X pins σ (upd H D (.lst (xs++[y]))) s'→Q .none s'):wpAny (model X.prog X.w) X.A (call (.builtin "list.append") [.ref D,v]) Q E s:=by
  obtain ⟨hz',its,n,ri,e⟩:=I.hok D _ hD
  have hl:=ri.length
  refine append_at (hsz:=by rw [List.size_toArray]; omega) e fun h' sb ho'=>?_
  refine h { s with heap:=h' } (I.write (t':=s.toks) (by rw [hD]; trivial) (.inl rfl) (fun b u hb q=>(sb.2 b hb).trans q) ⟨_,ho'⟩ ⟨by rw [List.length_append]; exact hz,its++[v],n+1,ri.append (.cons r .nil),?_⟩)
  rw [ho']
  simp
def Tp (X:Cx) (ifs:List Expr) (t:TT):Prop :=
  ∀ (pins:List (Addr×Obj)) (s:Shared) (σ:St) (H:Hp) (Q:Bool→Hp→Prop),Inv X pins σ H s→t σ H Q →
    wpAny (model X.prog X.w) X.A (forIn ifs true fun c r=>if r=true then do let ok ← isTrue c X.env (eval c X.env); pure (ForInStep.yield ok) else pure (ForInStep.yield r)) (TP X pins σ Q) X.xe s
def TF:TT:=fun _ H Q=>Q true H
theorem n_:Tp X [] TF:=fun _ _ _ H _ I h=>wpAny_tests_nil ⟨H,I,h⟩
end
theorem En {α:Type} {t:Sem α} {Q Q':α→Shared→Prop} {M:Model} {A:Around} {E:Value→Shared→Prop} {s:Shared} (h:wpAny M A t Q (fun _ _=>False) s) (hQ:∀ a s,Q a s→Q' a s):wpAny M A t Q' E s:=wpAny_mono h hQ fun _ _ z=>False.elim z
theorem xU {prog:Program} {w:World} {A:Around} {R:Result→Shared→Prop} {s:Shared} {elt target iter:Expr} {ifs:List Expr} {scope:Scope} {pos:Pos} {it acc:Value} {env:Env} (I:Nat→Shared→Prop)
    (turn:∀ n s,I n s→wpAny (model prog w) A (pyNext it) (fun r s₁=>match r with
      | none=>R (.ok .next) s₁
      | some v=>wpAny (model prog w) A (letOwnedTupleGo target it v) (fun _ s₁'=>wpAny (model prog w) A (assign target env v) (fun _ s₂ =>
          wpAny (model prog w) A (forIn ifs true fun c r=>if r=true then do let ok ← isTrue c env (eval c env); pure (ForInStep.yield ok) else pure (ForInStep.yield r)) (fun ok s₃ =>
            if ok=true then wpAny (model prog w) A (eval elt env) (fun x s₄ =>
              wpAny (model prog w) A (call (.builtin "list.append") [acc,x]) (fun _ s₅=>∃ m,m < n∧I m s₅) (notedBy (model prog w) A env fun e s'=>R (.error e) s') s₄) (notedBy (model prog w) A env fun e s'=>R (.error e) s') s₃
            else ∃ m,m < n∧I m s₃) (notedBy (model prog w) A env fun e s'=>R (.error e) s') s₂) (notedBy (model prog w) A env fun e s'=>R (.error e) s') s₁') (notedBy (model prog w) A env fun e s'=>R (.error e) s') s₁) (notedBy (model prog w) A env fun e s'=>R (.error e) s') s)
    (n:Nat) (h:I n s) :
    codeAny (model prog w) A (.compLoop (.ListComp elt [⟨target,iter,ifs,0⟩] scope pos) 0 it acc env) R s:=by
  refine codeAny_loop rfl I (fun n s hI=>?_) n h
  show wpAny _ A ((compTurn (.ListComp elt [⟨target,iter,ifs,0⟩] scope pos) 0 it acc env).onRaise (fun x=>do noteFrame x env; theTreesLotGoes x)) _ _ s
  refine wpAny_noted ?_
  rw [compTurn_list]
  refine wpAny_bind (wpAny_standAt (wpAny_bind (wpAny_mono (turn n s hI) (fun r s₁ h₁=>?_) fun _ _ h'=>h')))
  cases r with
  | none=>exact wpAny_pure h₁
  | some v =>
    refine wpAny_bind (wpAny_mono h₁ (fun _ s₁' h₁'=>?_) fun _ _ h'=>h')
    refine wpAny_bind (wpAny_mono h₁' (fun _ s₂ h₂=>wpAny_bind (wpAny_mono h₂ (fun ok s₃ h₃=>?_) fun _ _ h'=>h')) fun _ _ h'=>h')
    cases ok with
    | false=>exact wpAny_pure ⟨rfl,h₃⟩
    | true =>
      exact wpAny_bind (wpAny_bind (wpAny_mono h₃ (fun x s₄ h₄=>wpAny_bind (wpAny_mono h₄ (fun _ s₅ h₅=>wpAny_pure (wpAny_pure ⟨rfl,h₅⟩)) fun _ _ h'=>h')) fun _ _ h'=>h'))
section
variable {X:Cx}
def Th (wi:TI) (g:TG) (tt:TT) (te:TE) (vs:List Nat):TE:=fun σ H Q=>wi σ H fun J H1=>∀ D,H1 D=none→∃ W:Nat→Nat→Hp→Prop,(∃ m,W 0 m (upd H1 D (.lst [])))∧∀ i m H,W i m H →
  (J.stop i H∧Q (.ref D) H)∨(J.go i H∧∃ Nx:Hp→Prop,(∀ H',Nx H'→∃ m',m' < m∧W (i+1) m' H')∧∀ x H',J.yld i H x H'→g x (wipe σ vs) H' fun σ2 H2=>wipe σ2 vs=wipe σ vs∧tt σ2 H2 fun b H3 =>
    if b=true then te σ2 H3 fun y H4=>∃ acc,H4 D=some (.lst acc)∧acc.length < sizeLine∧Nx (upd H4 D (.lst (acc++[y]))) else Nx H3)
theorem Ds {pins:List (Addr×Obj)} {s:Shared} {σ:St} {H:Hp} {Q:VK} {elt tg iter:Expr} {ifs:List Expr} {scope:Scope} {own:List (Str×Nat)} {pos pos':Pos} {wi:TI} {g:TG} {tt:TT} {te:TE} {use:Option (Value→Sem Unit)} {Qf:Value→Shared→Prop}
    (hc:X.calm=true) (hN:X.N.Nodup) (I:Inv X pins σ H s) (hi:PI X tg iter wi) (ok:zY X.N X.env.scope scope own)
    (hg:∀ (s:Shared) (H:Hp) (C:Addr) (cl:List (Str×Addr)) (fp:List Addr),PG (X.blk s H scope (compEnvC scope cl C X.env) fp) tg g) (ht:∀ (s:Shared) (H:Hp) (C:Addr) (cl:List (Str×Addr)) (fp:List Addr),Tp (X.blk s H scope (compEnvC scope cl C X.env) fp) ifs tt)
    (he:∀ (s:Shared) (H:Hp) (C:Addr) (cl:List (Str×Addr)) (fp:List Addr),PE (X.blk s H scope (compEnvC scope cl C X.env) fp) elt te) (hs:∀ x,foldedSetIterable iter X.env x=pure x)
    (h:Th wi g tt te (own.map (·.2)) σ H Q)
    (hRR:∀ D C s' m H',Inv X pins σ H' s'→Q (.ref D) H'→s'.heap.Ns C m→rQ X pins H' C→compPost (model X.prog X.w) X.A X.xe use Qf (.ref D) C (.ok .next) s') :
    wpAny (model X.prog X.w) X.A (comprehension (.ListComp elt [⟨tg,iter,ifs,0⟩] scope pos) scope X.env pos' (newList []) false (eval iter X.env) use) Qf X.xe s:=by
  have hfree:∀ y∈scope.names,y.2=.free→∃ c,X.env.cells.lookup y.1=some c:=fun y hy e=>by
    rcases ok.free y hy e with k | k
    · exact I.ok.has _ (.inl k)
    · exact I.ok.has _ (.inr k)
  refine wpAny_comprehension_free (use:=use) rfl hs (BX hfree) ok.kind (fun y hy e=>by rw [ok.uniq y hy,e])
    (cP (hi pins s σ H _ I h) fun xv s1 hx=>cP hx fun itv s2 h2=>?_)
  obtain ⟨it,fp,tn,J,H2,e,I2,T,st2,f2,q⟩:=h2
  subst e
  refine wpAny_newObj_type (yZ ?_) (by show 0≤sizeLine; decide)
  generalize hD:s2.heap.objs.size=D
  have hDn:H2 D=none:=I2.hok.fresh (Nat.le_of_eq hD)
  obtain ⟨W,⟨m0,w0⟩,turn⟩:=q D hDn
  generalize hs3:({ s2 with heap:=s2.heap.push { cls:=.type "list",data:=.seq ([]:List Value).toArray } }:Shared)=s3
  have I3:Inv X pins σ (upd H2 D (.lst [])) s3:=by
    rw [← hs3]
    refine I2.laid (t':=s2.toks) (fun b o e=>Heap.get?_push_of_some _ e) (Nat.le_of_eq hD) ⟨Nat.zero_le _,[],0,.nil,?_⟩
    rw [← hD]
    exact Heap.get?_push_size _ rfl
  have h3:s3.heap=s2.heap.push { cls:=.type "list",data:=.seq ([]:List Value).toArray }:=by rw [← hs3]
  have sz:∀ b∈fp,b < s2.heap.objs.size:=fun b hb=>by
    obtain ⟨o,e,_⟩:=T.obj _ _ st2 b hb
    exact Heap.lt_size e
  have f3:∀ b∈fp,rQ X pins (upd H2 D (.lst [])) b∧b < s3.heap.objs.size:=fun b hb=>by
    have hlt:=sz b hb
    refine ⟨⟨?_,(f2 b hb).2⟩,by rw [h3,Heap.size_push]; exact Nat.lt_succ_of_lt hlt⟩
    rw [au (by rw [← hD]; exact Nat.ne_of_lt hlt)]
    exact (f2 b hb).1
  have st3:tn 0 s3.heap:=T.keep _ _ _ st2 fun b _ o e=>by rw [h3]; exact Heap.get?_push_of_some _ e
  have I4:=zQ I3 ok hN f3
  have pg:=hg s3 (upd H2 D (.lst [])) s3.heap.objs.size (cellsFrom (s3.heap.objs.size+1) scope.names (bZ X.env.cells scope.names [])) fp
  have pt:=ht s3 (upd H2 D (.lst [])) s3.heap.objs.size (cellsFrom (s3.heap.objs.size+1) scope.names (bZ X.env.cells scope.names [])) fp
  have pe:=he s3 (upd H2 D (.lst [])) s3.heap.objs.size (cellsFrom (s3.heap.objs.size+1) scope.names (bZ X.env.cells scope.names [])) fp
  show codeAny _ _ (.compStart (.ListComp elt [⟨tg,iter,ifs,0⟩] scope pos) 0 (.ref it) (.ref D) (compEnvC scope (cellsFrom (s3.heap.objs.size+1) scope.names (bZ X.env.cells scope.names [])) s3.heap.objs.size X.env)) (compPost (model X.prog X.w) X.A X.xe use Qf (.ref D) s3.heap.objs.size) { s3 with heap:=pushCells (s3.heap.push { cls:=.type "dict",data:=.dict #[] }) scope.names }
  have nfp:∀ b∈fp,(upd H2 D (.lst [])) b=none:=fun b hb=>(f3 b hb).1.1
  generalize hce:compEnvC scope (cellsFrom (s3.heap.objs.size+1) scope.names (bZ X.env.cells scope.names [])) s3.heap.objs.size X.env=ce at I4 pg pt pe ⊢
  have cL:ce.locals=s3.heap.objs.size:=by subst hce; rfl
  generalize hH3:upd H2 D (.lst [])=H3 at I3 I4 pg pt pe w0 nfp f3
  generalize hs4:({ s3 with heap:=pushCells (s3.heap.push { cls:=.type "dict",data:=.dict #[] }) scope.names }:Shared)=s4 at I4 ⊢
  have st4:tn 0 s4.heap:=T.keep _ _ _ st3 fun b _ o e=>by rw [← hs4]; exact pushCells_keeps _ _ _ _ (Heap.get?_push_of_some _ e)
  have stat:∀ {σ':St} {H':Hp} {s':Shared},Inv (X.blk s3 H3 scope ce fp) [] σ' H' s'→(∀ b∈fp,H' b=none)→∀ b∈fp,rQ (X.blk s3 H3 scope ce fp) [] H' b:=fun {σ' H' s'} I' hn b hb =>
    ⟨hn b hb,(I'.ok.exf b hb).1,I'.ok.exfs b hb,.inl hb,fun x c e=>(I'.ok.exf b hb).2 x c e,fun p hp=>absurd (show p∈([]:List (Addr×Obj))++[] from hp) (by simp)⟩
  have loop:codeAny (model X.prog X.w) X.A (.compLoop (.ListComp elt [⟨tg,iter,ifs,0⟩] scope pos) 0 (.ref it) (.ref D) ce) (compPost (model X.prog X.w) X.A X.xe use Qf (.ref D) s3.heap.objs.size) s4:=by
    refine xU (fun n s'=>∃ i H',Inv (X.blk s3 H3 scope ce fp) [] (wipe σ (own.map (·.2))) H' s'∧tn i s'.heap∧(∀ b∈fp,H' b=none)∧W i n H') ?_ m0 ⟨0,H3,I4,st4,nfp,w0⟩
    rintro n s5 ⟨i,H5,I5,st5,n5,w5⟩
    rcases turn i n H5 w5 with ⟨stop,qq⟩ | ⟨go,Nx,hNx,step⟩
    · have td:=T.done (X.blk s3 H3 scope ce fp) rfl rfl rfl hc i [] s5 _ H5 (fun _ _=>False) I5 (stat I5 n5) st5 stop
      refine En td fun r s6 ⟨hr,I6⟩=>?_
      subst hr
      have I7:Inv X pins σ H5 s6:=I3.call' (ch:=fp) I6.os I6.base I6.hok I6.bare fun b hb=>⟨(f3 b hb).1.2.2.2.1,(f3 b hb).1.2.1,(f3 b hb).1.2.2.2.2.1,(f3 b hb).1.2.2.2.2.2⟩
      have nC:H5 s3.heap.objs.size=none:=by
        have z:H5 ce.locals=none:=I6.free
        rw [cL] at z
        exact z
      obtain ⟨m,hn,_⟩:=I6.loc
      have hn:s6.heap.Ns ce.locals m:=hn
      rw [cL] at hn
      exact hRR D s3.heap.objs.size s6 m H5 I7 qq hn (I3.GQ (Nat.le_refl _) nC)
    · have ti:=T.item (X.blk s3 H3 scope ce fp) rfl rfl rfl hc i [] s5 _ H5 (fun _ _=>False) I5 (stat I5 n5) st5 go
      refine En ti fun r s6 ⟨u,hr,h6⟩=>?_
      subst hr
      refine En h6 fun _ s7 ⟨x,H7,I7,r7,y7,st7,n7⟩=>?_
      have I7':=I7.pinned (stat I7 n7) (T.obj _ _ st7)
      refine En (pg _ s7 _ H7 x u _ I7' r7 (step x H7 y7)) fun _ s8 ⟨σ8,H8,I8,hw8,q8⟩=>?_
      refine En (pt _ s8 σ8 H8 _ I8 q8) fun b s9 ⟨H9,I9,q9⟩=>?_
      have fin:∀ {s':Shared} {H':Hp},Inv (X.blk s3 H3 scope ce fp) ([]++ul fp s7.heap) σ8 H' s'→Nx H'→∃ m,m < n∧∃ i H',Inv (X.blk s3 H3 scope ce fp) [] (wipe σ (own.map (·.2))) H' s'∧tn i s'.heap∧(∀ b∈fp,H' b=none)∧W i m H':=fun {s' H'} I' nx=>by
        obtain ⟨m',hm,w'⟩:=hNx H' nx
        have pin':∀ b∈fp,∀ o,s7.heap.get? b=some o→s'.heap.get? b=some o∧H' b=none:=fun b hb o e =>
          let z:=I'.pin (b,o) (List.mem_append_right _ (List.mem_append_right _ (mC hb e)))
          ⟨z.1,z.2.1⟩
        have hl:(wipe σ (own.map (·.2))).length=σ8.length:=by rw [← hw8,jG]
        refine ⟨m',hm,i+1,H',(I'.mW (pins:=[])).weak hl (fun j v e=>?_),T.keep _ _ _ st7 fun b hb o e=>(pin' b hb o e).1,fun b hb=>?_,w'⟩
        · rw [← hw8] at e
          exact (o_ e).1
        · obtain ⟨o,e,_⟩:=T.obj _ _ st7 b hb
          exact (pin' b hb o e).2
      cases b with
      | false =>
        simp only [Bool.false_eq_true,if_false] at q9 ⊢
        exact fin I9 q9
      | true =>
        simp only [if_true] at q9 ⊢
        refine En (pe _ s9 σ8 H9 _ I9 q9) fun z s10 ⟨yv,H10,I10,r10,acc,hD10,hz10,nx⟩=>?_
        exact Rn (X:=X.blk s3 H3 scope ce fp) I10 hD10 hz10 r10 fun s11 I11=>fin I11 nx
  exact codeAny_compStart_list loop (T.self X.A 0 _ _ _ st4 loop)
theorem Dg {elt tg iter:Expr} {ifs:List Expr} {scope:Scope} {own:List (Str×Nat)} {pos:Pos} {wi:TI} {g:TG} {tt:TT} {te:TE} (hc:X.calm=true) (hN:X.N.Nodup) (hi:PI X tg iter wi) (ok:zY X.N X.env.scope scope own)
    (hg:∀ (s:Shared) (H:Hp) (C:Addr) (cl:List (Str×Addr)) (fp:List Addr),PG (X.blk s H scope (compEnvC scope cl C X.env) fp) tg g) (ht:∀ (s:Shared) (H:Hp) (C:Addr) (cl:List (Str×Addr)) (fp:List Addr),Tp (X.blk s H scope (compEnvC scope cl C X.env) fp) ifs tt)
    (he:∀ (s:Shared) (H:Hp) (C:Addr) (cl:List (Str×Addr)) (fp:List Addr),PE (X.blk s H scope (compEnvC scope cl C X.env) fp) elt te) (hs:∀ x,foldedSetIterable iter X.env x=pure x:=by intro _; rfl) :
    PE X (.ListComp elt [⟨tg,iter,ifs,0⟩] scope pos) (Th wi g tt te (own.map (·.2))):=by
  intro pins s σ H Q I h
  rw [eval_ListComp]
  refine Ds hc hN I hi ok hg ht he hs h fun D C s' m H' I' q hn f=>⟨m,hn,fun h'' sb=>?_⟩
  obtain ⟨f0,f1,f2,f3,f4,f5⟩:=f
  exact ⟨.ref D,H',I'.turned (t':=s'.toks) (fun b o hb e=>(sb.2 b hb).trans e) f0 f1 f3 f4 f5,rfl,q⟩
theorem Ju {i:Nat} {y:Str} {py:Pos} {elt tg iter:Expr} {ifs:List Expr} {scope:Scope} {own:List (Str×Nat)} {pos spos:Pos} {wi:TI} {g:TG} {tt:TT} {te:TE} (hc:X.calm=true) (hN:X.N.Nodup) (hy:X.N[i]?=some y) (hyl:X.env.scope.names.lookup y=some .local)
    (hsw:swapsWith (.ListComp elt [⟨tg,iter,ifs,0⟩] scope pos) (some (.Name y py)) spos.line X.env=pure true) (hi:PI X tg iter wi) (ok:zY X.N X.env.scope scope own)
    (hg:∀ (s:Shared) (H:Hp) (C:Addr) (cl:List (Str×Addr)) (fp:List Addr),PG (X.blk s H scope (compEnvC scope cl C X.env) fp) tg g) (ht:∀ (s:Shared) (H:Hp) (C:Addr) (cl:List (Str×Addr)) (fp:List Addr),Tp (X.blk s H scope (compEnvC scope cl C X.env) fp) ifs tt)
    (he:∀ (s:Shared) (H:Hp) (C:Addr) (cl:List (Str×Addr)) (fp:List Addr),PE (X.blk s H scope (compEnvC scope cl C X.env) fp) elt te) (hs:∀ x,foldedSetIterable iter X.env x=pure x:=by intro _; rfl) :
    PS X (.Assign [.Name y py] (.ListComp elt [⟨tg,iter,ifs,0⟩] scope pos) spos) (vg (Th wi g tt te (own.map (·.2))) (jy i)):=by
  intro pins s σ H D I h
  rw [exec_Assign_Name_used _ _ _ _ hsw]
  refine wpAny_bind (wpAny_standAt (wpAny_bind ?_))
  show wpAny _ X.A (do let _ ← comprehension (.ListComp elt [⟨tg,iter,ifs,0⟩] scope pos) scope X.env (firstIterPos [⟨tg,iter,ifs,0⟩] pos) (newList []) false (eval iter X.env) (some (assign (.Name y py) X.env))) _ _ s
  have h:Th wi g tt te (own.map (·.2)) σ H (fun x H1=>jy i x σ H1 D.nx):=h
  refine wpAny_bind (cP (Ds (Qf:=fun _ s'=>SP X pins D .next s') hc hN I hi ok hg ht he hs h fun L C s' m H' I' q hn f=>?_) fun _ s' hq=>wpAny_pure (wpAny_pure hq))
  show wpAny _ _ (assign (.Name y py) X.env (.ref L)) _ _ _
  refine wpAny_assign_Name (vN (v:=V.ref L) I' hN hy (.inl hyl) rfl (fun s2 I2 ⟨a,sb,ha⟩=>?_) (.inr hyl))
  obtain ⟨f0,f1,f2,f3,f4,f5⟩:=f
  have haC:C≠a:=by
    rcases ha with z | z
    · rw [z]; exact f1
    · exact fun e=>f4 y a z e.symm
  refine ⟨m,hn.sameBut sb haC,fun h3 sb3=>?_⟩
  exact ⟨_,H',I2.turned (t':=s2.toks) (fun b o hb e=>(sb3.2 b hb).trans e) f0 f1 f3 f4 f5,q⟩
theorem Lw {elt:Expr} {gs:List Comprehension} {scope:Scope} {pos py:Pos} {y:Str} {l:Nat} {env:Env} (hk:env.scope.kind=.function) (hy:env.scope.names.lookup y=some .local) (hl:(py.line==pos.line)=true)
    (ha:(scope.names.any fun (n,k)=>n==y && (k==.local || k==.cell))=false):swapsWith (.ListComp elt gs scope pos) (some (.Name y py)) l env=pure true:=by
  have ky:env.kindOf y=some .local:=hy
  have hb:env.blockKind=.function:=by unfold Env.blockKind; rw [hk]; rfl
  unfold swapsWith
  simp only [hb,ky,ha,Expr.pos,hl]
  rfl
end
theorem oN {K:PySem.W.Frag} {a:Addr} {xs:List V} {g:TG} {tt:TT} {te:TE} {vs:List Nat} {σ:St} {H1:Hp} {D:Addr} {Qd:Hp→Prop} (Pv:Nat→Hp→Prop) (h0:Pv 0 (upd H1 D (.lst []))) (hl:∀ i H,i≤xs.length→Pv i H→bG K H a xs)
    (hs:∀ i x H,xs[i]?=some x→Pv i H→g x (wipe σ vs) H fun σ2 H2=>wipe σ2 vs=wipe σ vs∧tt σ2 H2 fun b H3 =>
      if b=true then te σ2 H3 fun y H4=>∃ acc,H4 D=some (.lst acc)∧acc.length < sizeLine∧Pv (i+1) (upd H4 D (.lst (acc++[y]))) else Pv (i+1) H3) (hd:∀ H,Pv xs.length H→Qd H) :
    ∃ W:Nat→Nat→Hp→Prop,(∃ m,W 0 m (upd H1 D (.lst [])))∧∀ i m H,W i m H →
      ((PP K a).stop i H∧Qd H)∨((PP K a).go i H∧∃ Nx:Hp→Prop,(∀ H',Nx H'→∃ m',m' < m∧W (i+1) m' H')∧∀ x H',(PP K a).yld i H x H'→g x (wipe σ vs) H' fun σ2 H2=>wipe σ2 vs=wipe σ vs∧tt σ2 H2 fun b H3 =>
        if b=true then te σ2 H3 fun y H4=>∃ acc,H4 D=some (.lst acc)∧acc.length < sizeLine∧Nx (upd H4 D (.lst (acc++[y]))) else Nx H3):=by
  refine ⟨fun i m H=>m=xs.length - i∧i≤xs.length∧Pv i H,⟨xs.length,by simp,Nat.zero_le _,h0⟩,?_⟩
  rintro i m H ⟨rfl,hi,p⟩
  have q:=hl i H hi p
  by_cases hlt:i < xs.length
  · refine .inr ⟨⟨xs,xs[i],q,by simp [hlt]⟩,Pv (i+1),fun H' p'=>⟨xs.length - (i+1),by omega,rfl,hlt,p'⟩,fun x H' y=>?_⟩
    obtain ⟨e,y⟩:=y
    subst e
    exact hs i x _ (y xs q) p
  · have e:i=xs.length:=by omega
    subst e
    exact .inl ⟨⟨xs,q,Nat.le_refl _⟩,hd H p⟩
def SN (N:List Str) (sc scope:Scope) (own:List (Str×Nat)):Bool :=
  (match scope.kind with | .function=>true | _=>false) && (scope.names.all fun y=>decide (scope.names.lookup y.1=some y.2)) && (own.all fun p=>decide (N[p.2]?=some p.1)) &&
    (scope.names.all fun y=>match y.2 with
      | .free=>(match sc.names.lookup y.1 with | some .cell=>true | some .free=>true | _=>false)
      | .local=>decide (y.1∈own.map (·.1)) || decide (y.1∉N)
      | .cell=>decide (y.1∈own.map (·.1)) || decide (y.1∉N)
      | _=>true)
theorem kh {N:List Str} {sc scope:Scope} {own:List (Str×Nat)} (h:SN N sc scope own=true):zY N sc scope own:=by
  unfold SN at h
  simp only [Bool.and_eq_true,List.all_eq_true,decide_eq_true_eq] at h
  obtain ⟨⟨⟨h1,h2⟩,h3⟩,h4⟩:=h
  refine ⟨?_,h2,h3,fun y hy e=>?_,fun y hy e=>?_⟩
  · split at h1
    · assumption
    · cases h1
  · have q:=h4 y hy
    simp only [e] at q
    split at q <;> first | exact .inl (by assumption) | exact .inr (by assumption) | cases q
  · have q:=h4 y hy
    rcases e with e | e <;> (simp only [e,Bool.or_eq_true,decide_eq_true_eq] at q; exact q)
end L2
namespace L2
open PySem PySem.Spec PyProof.Rows
section
variable {prog:Program} {w:World} {A:Around} {R:Result→Shared→Prop} {s:Shared} {elt t0 i0 t1 i1:Expr} {ifs0 ifs1:List Expr} {scope:Scope} {pos:Pos} {it acc:Value} {env:Env}
end
section
variable {X:Cx}
end
end L2
namespace L2
open PySem PySem.Spec PyProof.Rows
section
variable {κ:Type} [DecidableEq κ]
def u6 (kvs:List (κ×V)) (k:κ):Option V:=(kvs.find? fun kv=>decide (kv.1=k)).map (·.2)
theorem HF {p:κ×V} {r:List (κ×V)} {k:κ} (e:p.1=k):u6 (p :: r) k=some p.2:=by simp [u6,List.find?_cons,e]
theorem HH {p:κ×V} {r:List (κ×V)} {k:κ} (e:¬ p.1=k):u6 (p :: r) k=u6 r k:=by simp [u6,List.find?_cons,e]
theorem mV.Gv {o:Option V} {u:Option Value} (r:mV o u):o.isSome=u.isSome:=by
  cases o with
  | none=>cases u with
    | none=>rfl
    | some _=>exact (show False from r).elim
  | some _=>cases u with
    | none=>exact (show False from r).elim
    | some _=>rfl
theorem KV.val {kvs:List (κ×V)} {vs:List (κ×Value)} (r:KV kvs vs) (k:κ):mV (u6 kvs k) (valueAt vs k):=by
  unfold KV at r
  induction r with
  | nil=>exact True.intro
  | @cons p q ps qs h t ih =>
    obtain ⟨h1,h2⟩:=h
    by_cases e:p.1=k
    · have e':q.1=k:=h1.symm.trans e
      have b:valueAt (q :: qs) k=some q.2:=by simp [valueAt,List.find?_cons,e']
      rw [HF e,b]; exact h2
    · have e':¬ q.1=k:=fun z=>e (h1.trans z)
      have b:valueAt (q :: qs) k=valueAt qs k:=by simp [valueAt,List.find?_cons,e']
      rw [HH e,b]; exact ih
end
theorem Pn {P:Program} {w:World} {k:Key} {u:Value} (r:RelV (kV k) u):(cY P w).is k u=true:=by
  cases k with
  | inl i=>obtain ⟨t,e⟩:=(show ∃ t,u=Value.int i t from r); subst e; exact zb P w i t
  | inr x=>obtain ⟨t,e⟩:=(show ∃ t,u=Value.str x t from r); subst e; exact jZ P w x t
section
variable {P:Program} {w:World} {H:Hp} {h:Heap} {a:Addr}
end
section
variable {X:Cx} {pins:List (Addr×Obj)} {σ:St} {H:Hp} {s:Shared} {a:Addr} {y v:V} {u r:Value} {o:Option V} {A:Around} {E:Value→Shared→Prop}
end
section
variable {X:Cx} {pins:List (Addr×Obj)} {σ:St} {H:Hp} {s:Shared} {a:Addr} {kvs:List (Key×V)} {k:Key} {u:Value} {A:Around} {E:Value→Shared→Prop}
end
def S6 (i:Expr):Prop:=∀ ov iv,subscripted i false ov iv=operate [ov,iv] (getItem ov iv)
theorem Lx {prog:Program} {w:World} {A:Around} {E:Value→Shared→Prop} {s:Shared} {env:Env} {value slice:Expr} {pos:Pos} {T id:String} {Q:Value→Shared→Prop}
    (hl:typeLookup (.type T) "__getitem__"=pure (some (.builtin id))) (hs:S6 slice)
    (h:wpAny (model prog w) A (eval value env) (fun o s₁=>wpAny (model prog w) A (eval slice env) (fun i s₂=>s₂.TypeIs o T∧wpAny (model prog w) A (getItem o i) Q E s₂) E s₁) E s) :
    wpAny (model prog w) A (eval (.Subscript value slice pos) env) Q E s:=by
  refine Subscript_ (wpAny_mono h (fun o s₁ h₁=>wpAny_mono h₁ (fun i s₂ h₂=>?_) fun _ _ x=>x) fun _ _ x=>x)
  obtain ⟨hT,h₂⟩:=h₂
  unfold subscriptTail
  refine wpAny_bind ?_
  rw [getitemInPython_of_ne hT.not_modules]
  refine wpAny_bind (wpAny_specialOf hT hl ?_)
  have fin:wpAny (model prog w) A (subscripted slice false o i) (fun r s₃=>wpAny (model prog w) A (letTemporaryGo value o r>>=fun _=>pure r) Q E s₃) E s₂:=by
    rw [hs o i]
    exact wpAny_operating (wpAny_mono h₂ (fun r s₃ h₃=>wpAny_bind (wpAny_letTemporaryGo (wpAny_pure h₃))) fun _ _ x=>x)
  first
    | exact wpAny_pure (wpAny_bind fin)
    | exact wpAny_bind (wpAny_pure (wpAny_bind fin))
    | exact wpAny_bind fin
section
variable {X:Cx} {o i e value:Expr} {pos pos' tpos:Pos} {td ty tv:TE}
end
section
variable {X:Cx} {pos:Pos}
end
section
variable {X:Cx} {pins:List (Addr×Obj)} {σ:St} {H:Hp} {s:Shared} {a:Addr} {y d:V} {u r:Value} {o:Option V} {A:Around} {E:Value→Shared→Prop}
end
section
variable {X:Cx} {o e f:Expr} {apos cpos:Pos} {td ty tx:TE}
end
section
variable {X:Cx} {pins:List (Addr×Obj)} {σ:St} {H:Hp} {s:Shared} {a:Addr} {kvs:List (Key×V)} {A:Around} {E:Value→Shared→Prop}
end
section
variable {X:Cx} {pins:List (Addr×Obj)} {σ:St} {H:Hp} {s:Shared} {a:Addr} {y:V} {u:Value} {A:Around} {E:Value→Shared→Prop}
end
end L2
namespace L2
open PySem PySem.Spec PyProof.Rows
section
variable {prog:Program} {w:World} {A:Around} {E:Value→Shared→Prop}
end
section
variable {X:Cx}
end
end L2
namespace L2
open PySem PySem.Spec PyProof.Rows
section
variable {X:Cx} {pins:List (Addr×Obj)} {σ:St} {H:Hp} {s:Shared} {h':Heap}
theorem Inv.Lq {t':Nat} {ch:List Addr} (I:Inv X pins σ H s) (k:∀ b o,b∉ch→s.heap.get? b=some o→h'.get? b=some o) (hf:∀ b∈ch,rQ X pins H b):Inv X pins σ H { s with heap:=h',toks:=t' }:=by
  have nit:∀ b u,H b=some u→b∉ch:=fun b u e z=>by
    have q:=(hf b z).1
    rw [q] at e; cases e
  refine I.step (g':=s.gens) (d':=s.drawn) (ch:=ch) (fun b hb=>⟨(hf b hb).2.2.2.1,(hf b hb).2.1,(hf b hb).2.2.2.2.1,(hf b hb).2.2.2.2.2⟩) (fun b o _ _ hc e _=>k b o hc e) (fun b o _ _ hc e _=>⟨o.slots,k b o hc e⟩)
    (fun _ _ _ _ n=>n) (fun b o hc e=>⟨o,k b o hc e⟩) (fun _ _ e=>e) (fun _ _ _ e=>e) (fun b ps e=>⟨#[],by rw [e]; simp⟩) (fun m hm=>?_) (fun b u e=>?_) I.bare
  · obtain ⟨o,es,ep,ho,r⟩:=hm
    exact ⟨o,es,ep,k _ o (fun z=>(hf _ z).2.1 rfl) ho,r⟩
  · refine (I.hok b u e).stay (fun c v hc q=>k c v ?_ q) (fun _ q=>q) fun _ _ q=>q
    rcases hc with z | z
    · rw [z]; exact nit b u e
    · exact nit c _ z
theorem Inv.ph {t':Nat} {ch:List Addr} {T:Addr} {ob:HO} (I:Inv X pins σ H s) (k:∀ b o,b∉ch→s.heap.get? b=some o→h'.get? b=some o) (hf:∀ b∈ch,rQ X pins H b) (hT:s.heap.objs.size≤T)
    (new:cX X.prog X.w (upd H T ob) h' T ob):Inv X pins σ (upd H T ob) { s with heap:=h',toks:=t' }:=by
  have hn:H T=none:=I.hok.fresh hT
  have nit:∀ b u,H b=some u→b∉ch:=fun b u e z=>by
    have q:=(hf b z).1
    rw [q] at e; cases e
  refine I.step (g':=s.gens) (d':=s.drawn) (ch:=ch) (fun b hb=>⟨(hf b hb).2.2.2.1,(hf b hb).2.1,(hf b hb).2.2.2.2.1,(hf b hb).2.2.2.2.2⟩) (fun b o _ _ hc e _=>k b o hc e) (fun b o _ _ hc e _=>⟨o.slots,k b o hc e⟩)
    (fun b o _ e n=>?_) (fun b o hc e=>⟨o,k b o hc e⟩) (fun b xs e=>?_) (fun b o u e=>?_) (fun b ps e=>⟨#[],?_⟩) (fun m hm=>?_) (fun b u e=>?_) I.bare
  · rw [au (Nat.ne_of_lt (Nat.lt_of_lt_of_le (Heap.lt_size e) hT))]; exact n
  · rw [au (aB e hn)]; exact e
  · rw [au (aB e hn)]; exact e
  · rw [au (aB e hn),e]; simp
  · obtain ⟨o,es,ep,ho,r⟩:=hm
    exact ⟨o,es,ep,k _ o (fun z=>(hf _ z).2.1 rfl) ho,r⟩
  · by_cases hb:b=T
    · subst hb
      rw [ak] at e
      cases e
      exact new
    · rw [au hb] at e
      refine (I.hok b u e).stay (fun c v hc q=>k c v ?_ q) (fun c q=>by rw [au (aB q hn)]; exact q) fun c xs q=>by rw [au (aB q hn)]; exact q
      rcases hc with z | z
      · rw [z]; exact nit b u e
      · exact nit c _ z
end
section
variable {X:Cx}
theorem QC {tg:Expr} {pins:List (Addr×Obj)} {σ:St} {H:Hp} {s:Shared} {R:It→Hp→Prop} {J:It} {tn:Nat→Heap→Prop} {tk:Nat} (I:Inv X pins σ H s) (o:Obj)
    (T:Turn X.prog X.w X.K tg J [s.heap.objs.size] s.heap.objs.size tn) (st:tn 0 (s.heap.push o)) (q:R J H):PIE X pins σ tg R (.ref s.heap.objs.size) { s with heap:=s.heap.push o,toks:=tk }:=by
  refine ⟨s.heap.objs.size,[s.heap.objs.size],tn,J,H,rfl,I.kept fun b ob e=>Heap.get?_push_of_some _ e,T,st,fun b hb=>?_,q⟩
  have e:b=s.heap.objs.size:=by simpa using hb
  subst e
  exact I.GQ (Nat.le_refl _) (I.hok.fresh (Nat.le_refl _))
end
section
variable {X:Cx} {tg:Expr}
end
section
variable {X:Cx} {tg:Expr}
end
section
variable {prog:Program} {w:World} {A:Around} {E:Value→Shared→Prop} {s:Shared}
end
theorem Q7 {κ:Type} {kvs:List (κ×V)} {vs:List (κ×Value)} (h:KV kvs vs):∀ {i:Nat} {k:κ} {v:V},kvs[i]?=some (k,v)→∃ u,vs[i]?=some (k,u)∧RelV v u:=by
  unfold KV at h
  induction h with
  | nil=>intro i k v e; simp at e
  | @cons a b l₁ l₂ r t ih =>
    intro i k v e
    cases i with
    | zero =>
      simp only [List.getElem?_cons_zero,Option.some.injEq] at e
      subst e
      refine ⟨b.2,?_,r.2⟩
      simp only [List.getElem?_cons_zero]
      exact congrArg some (Prod.ext r.1.symm rfl)
    | succ j =>
      simp only [List.getElem?_cons_succ] at e ⊢
      exact ih e
theorem cM {α β:Type} {G:α→β→Prop} {l₁:List α} {l₂:List β} (h:Paired G l₁ l₂):∀ {i:Nat} {a:α},l₁[i]?=some a→∃ b,l₂[i]?=some b∧G a b:=by
  induction h with
  | nil=>intro i a e; simp at e
  | @cons a b l₁ l₂ r t ih =>
    intro i a' e
    cases i with
    | zero =>
      simp only [List.getElem?_cons_zero,Option.some.injEq] at e
      subst e
      exact ⟨b,rfl,r⟩
    | succ j =>
      simp only [List.getElem?_cons_succ] at e ⊢
      exact ih e
theorem Jo {k:Key} {u:Value} (h:qZ k u=true):RelV (kV k) u:=by
  rcases cH h with ⟨i,t,rfl,rfl⟩ | ⟨x,t,rfl,rfl⟩
  · exact ⟨t,rfl⟩
  · exact ⟨t,rfl⟩
section
variable {X:Cx} {pins:List (Addr×Obj)} {σ:St} {H:Hp} {s:Shared} {d:Addr} {o:Obj}
end
theorem DP {o:Obj} {es es':Array DictEntry} {ep ep':Nat} (h:o.data=.dict es ep) (h':o.data=.dict es' ep'):es'=es∧ep'=ep:=by
  rw [h] at h'
  cases h'
  exact ⟨rfl,rfl⟩
section
variable {P:Program} {w:World} {K:PySem.W.Frag} {tg:Expr} {d:Addr} {o:Obj} {es:Array DictEntry} {ep:Nat}
end
section
variable {X:Cx} {tg e:Expr} {td:TE} {apos cpos:Pos}
end
def Td (K:PySem.W.Frag) (a:Addr):It :=
  ⟨fun i H=>∃ (xs:List V) (x:V),bG K H a xs∧xs[i]?=some x,fun i H v H'=>∃ T x,v=.ref T∧H T=none∧H'=upd H T (.tup [.int (i:Nat),x])∧∀ xs,bG K H a xs→xs[i]?=some x,fun i H=>∃ xs:List V,bG K H a xs∧xs.length≤i⟩
theorem Ek {P:Program} {w:World} {K:PySem.W.Frag} {elts:List Expr} {kk:Nat} {tpos:Pos} (a e it:Addr) :
    Turn P w K (.Tuple elts kk tpos) (Td K a) [e,it] e (fun i h=>(∃ old,IsEnum h e it ((i:Nat):Int) old)∧h.IsListIter it a i∧e≠it) where
  mem:=by simp
  obj:=fun i h st b hb=>by
    obtain ⟨⟨old,he⟩,⟨o,ho,hc,hd⟩,_⟩:=st
    have e':b=e∨b=it:=by simpa using hb
    rcases e' with z | z
    · rw [z]; exact ⟨_,he,fun v q=>nomatch q⟩
    · rw [z]; exact ⟨o,ho,fun v q=>by rw [hd] at q; cases q⟩
  keep:=fun i h h' st k=>let ⟨⟨old,he⟩,hi,hne⟩:=st; ⟨⟨old,k e (by simp) _ he⟩,hi.at fun o q=>k it (by simp) o q,hne⟩
  item:=by
    intro X hP hw hK hc i pins s σ H E I hf st hg
    subst hP hw hK
    obtain ⟨⟨old,he⟩,hit,hne⟩:=st
    obtain ⟨xs,x,hq,hx⟩:=hg
    obtain ⟨its,rv,p,hz⟩:=I.list hq
    obtain ⟨u,hu,ru⟩:=rv.get hx
    have hel:e < s.heap.objs.size:=Heap.lt_size he
    have hil:it < s.heap.objs.size:=by obtain ⟨_,q,_⟩:=hit; exact Heap.lt_size q
    refine wpAny_pyNext_enum_item he hit p.isList (x:=u) (by simpa using hu) hne fun h' ho hit' hT hsz hk=>?_
    refine ⟨_,rfl,wpAny_letOwnedTupleGo_enum (s:={ s with heap:=h',toks:=s.toks+1 }) ho fun h'' he' sb=>?_⟩
    have hT2:h''.get? s.heap.objs.size=some { cls:=.type "tuple",data:=.seq #[.int i s.toks,u] }:=(sb.2 _ (Nat.ne_of_gt hel)).trans hT
    have new:cX X.prog X.w (upd H s.heap.objs.size (.tup [.int (i:Nat),x])) h'' s.heap.objs.size (.tup [.int (i:Nat),x]) :=
      ⟨by show 2≤sizeLine; decide,[.int i s.toks,u],.cons ⟨_,rfl⟩ (.cons ru .nil),⟨_,hT2,rfl,_,rfl⟩⟩
    have I1:Inv X pins σ (upd H s.heap.objs.size (.tup [.int (i:Nat),x])) { s with heap:=h'',toks:=s.toks+1 } :=
      I.ph (ch:=[e,it]) (fun b ob hb q=>(sb.2 b (fun z=>hb (by simp [z]))).trans (hk b ob (fun z=>hb (by simp [z])) (fun z=>hb (by simp [z])) q)) hf (Nat.le_refl _) new
    refine ⟨.ref s.heap.objs.size,_,I1,rfl,⟨_,x,rfl,I.hok.fresh (Nat.le_refl _),rfl,fun ys hy=>by rw [I.oJ hy hq]; exact hx⟩,⟨⟨u,?_⟩,hit'.at fun o q=>(sb.2 it (Ne.symm hne)).trans q,hne⟩,fun b hb=>?_⟩
    · have e1:((i+1:Nat):Int)=(i:Int)+1:=by omega
      rw [e1]; exact he'
    · have hb':b < s.heap.objs.size:=by
        have e':b=e∨b=it:=by simpa using hb
        rcases e' with z | z
        · rw [z]; exact hel
        · rw [z]; exact hil
      rw [au (Nat.ne_of_lt hb')]
      exact (hf b hb).1
  done:=by
    intro X hP hw hK hc i pins s σ H E I hf st hg
    subst hP hw hK
    obtain ⟨⟨old,he⟩,hit,hne⟩:=st
    obtain ⟨xs,hq,hx⟩:=hg
    obtain ⟨its,rv,p,hz⟩:=I.list hq
    obtain ⟨f0,f1,f2,f3,f4,f5⟩:=hf it (by simp)
    have hl:=rv.length
    exact wpAny_pyNext_enum_end (I.ok.hd hc) he hit p.isList (by simp; omega) fun h' eb=>⟨rfl,I.turned (t':=s.toks) (fun b o hb q=>eb b o hb q) f0 f1 f3 f4 f5⟩
  self:=fun A i s Q E st h=>let ⟨⟨_,he⟩,_⟩:=st; wpAny_pyIter_enum he h
def Sv (K:PySem.W.Frag) (ta:TA):TI:=fun σ H R=>ta σ H fun vs H1=>∃ a xs,vs=[.ref a]∧bG K H1 a xs∧R (Td K a) H1
theorem Mx {X:Cx} {e:Expr} {ta:TA} {p pos tpos:Pos} {elts:List Expr} {kk:Nat} (hg:Gl X "enumerate") (hm:X.mg "enumerate"=none) (ha:PA X [e] ta) (hs:starEach [e] X.env=[(false,eval e X.env)]:=by rfl) :
    PI X (.Tuple elts kk tpos) (.Call (.Name "enumerate" p) [e] [] pos) (Sv X.K ta):=by
  intro pins s σ H R I h
  refine Call_ (qb I hg hm boot_enumerate (PyProof.Rows.callWith_type1 (cP (ha pos pins s σ H _ I h) fun us s1 ⟨vs,H1,I1,r1,q1⟩=>?_) hs rfl))
  obtain ⟨a,xs,ex,hq,q⟩:=q1
  subst ex
  cases r1 with
  | cons r rr =>
    cases rr
    cases r
    obtain ⟨its,rv,p',hz⟩:=I1.list hq
    refine call_enumerate_list p'.isList fun h' he hit hsz hk=>wpAny_pyIter_enum he ?_
    have I2:Inv X pins σ H1 { s1 with heap:=h' }:=I1.kept (t':=s1.toks) hk
    refine ⟨s1.heap.objs.size+1,[s1.heap.objs.size+1,s1.heap.objs.size],_,_,H1,rfl,I2,Ek a (s1.heap.objs.size+1) s1.heap.objs.size,⟨⟨.none,he⟩,hit,Nat.succ_ne_self _⟩,fun b hb=>?_,q⟩
    have e':b=s1.heap.objs.size+1∨b=s1.heap.objs.size:=by simpa using hb
    have hle:s1.heap.objs.size≤b:=by
      rcases e' with z | z
      · rw [z]; exact Nat.le_add_right _ _
      · rw [z]; exact Nat.le_refl _
    exact I1.GQ hle (I1.hok.fresh hle)
theorem Hh:bootBuiltins "zip"=some (.type "zip"):=by decide +kernel
def S9 (K:PySem.W.Frag) (a b:Addr):It :=
  ⟨fun i H=>∃ (xs ys:List V) (x y:V),bG K H a xs∧bG K H b ys∧xs[i]?=some x∧ys[i]?=some y,
    fun i H v H'=>∃ T x y,v=.ref T∧H T=none∧H'=upd H T (.tup [x,y])∧(∀ xs,bG K H a xs→xs[i]?=some x)∧∀ ys,bG K H b ys→ys[i]?=some y,
    fun i H=>∃ xs ys:List V,bG K H a xs∧bG K H b ys∧(xs.length≤i∨ys.length≤i)⟩
theorem HS {P:Program} {w:World} {K:PySem.W.Frag} {elts:List Expr} {kk:Nat} {tpos:Pos} {a b z TI TO i1 i2:Addr} (D:ZipApart z TI TO i1 i2 a b) :
    Turn P w K (.Tuple elts kk tpos) (S9 K a b) [z,TI,TO,i1,i2] z (fun i h=>IsZip h z TI TO .none∧IsPair h TI (.ref i1) (.ref i2)∧(∃ x y,IsPair h TO x y)∧h.IsListIter i1 a i∧h.IsListIter i2 b i) where
  mem:=by simp
  obj:=fun i h st c hc=>by
    obtain ⟨hz,hTI,⟨x,y,hTO⟩,⟨o1,e1,_,d1⟩,⟨o2,e2,_,d2⟩⟩:=st
    have e':c=z∨c=TI∨c=TO∨c=i1∨c=i2:=by simpa using hc
    rcases e' with q | q | q | q | q
    · rw [q]; exact ⟨_,hz,fun v q=>nomatch q⟩
    · rw [q]; exact ⟨_,hTI,fun v q=>nomatch q⟩
    · rw [q]; exact ⟨_,hTO,fun v q=>nomatch q⟩
    · rw [q]; exact ⟨o1,e1,fun v q=>by rw [d1] at q; cases q⟩
    · rw [q]; exact ⟨o2,e2,fun v q=>by rw [d2] at q; cases q⟩
  keep:=fun i h h' st k=>by
    obtain ⟨hz,hTI,⟨x,y,hTO⟩,h1,h2⟩:=st
    exact ⟨k z (by simp) _ hz,k TI (by simp) _ hTI,⟨x,y,k TO (by simp) _ hTO⟩,h1.at fun o q=>k i1 (by simp) o q,h2.at fun o q=>k i2 (by simp) o q⟩
  item:=by
    intro X hP hw hK hc i pins s σ H E I hf st hg
    subst hP hw hK
    obtain ⟨hz,hTI,⟨x0,y0,hTO⟩,h1,h2⟩:=st
    obtain ⟨xs,ys,x,y,hqx,hqy,hx,hy⟩:=hg
    obtain ⟨its,rv,p,_⟩:=I.list hqx
    obtain ⟨its2,rv2,p2,_⟩:=I.list hqy
    obtain ⟨u,hu,ru⟩:=rv.get hx
    obtain ⟨u2,hu2,ru2⟩:=rv2.get hy
    have hzl:z < s.heap.objs.size:=Heap.lt_size hz
    refine wpAny_pyNext_zip_item D hz hTI hTO h1 h2 p.isList p2.isList (x:=u) (y:=u2) (by simpa using hu) (by simpa using hu2) fun h' z' TO' h1' h2' hT hsz hk=>?_
    refine ⟨_,rfl,wpAny_letOwnedTupleGo_zip (s:={ s with heap:=h' }) z' fun h'' z'' sb=>?_⟩
    have hT2:h''.get? s.heap.objs.size=some { cls:=.type "tuple",data:=.seq #[u,u2] }:=(sb.2 _ (Nat.ne_of_gt hzl)).trans hT
    have new:cX X.prog X.w (upd H s.heap.objs.size (.tup [x,y])) h'' s.heap.objs.size (.tup [x,y]) :=
      ⟨by show 2≤sizeLine; decide,[u,u2],.cons ru (.cons ru2 .nil),⟨_,hT2,rfl,_,rfl⟩⟩
    have I1:Inv X pins σ (upd H s.heap.objs.size (.tup [x,y])) { s with heap:=h'' } :=
      I.ph (t':=s.toks) (ch:=[z,TI,TO,i1,i2]) (fun c o hb q=>(sb.2 c (fun q'=>hb (by simp [q']))).trans (hk c o (fun q'=>hb (by simp [q'])) (fun q'=>hb (by simp [q'])) (fun q'=>hb (by simp [q'])) (fun q'=>hb (by simp [q'])) q)) hf (Nat.le_refl _) new
    refine ⟨.ref s.heap.objs.size,_,I1,rfl,⟨_,x,y,rfl,I.hok.fresh (Nat.le_refl _),rfl,fun l hl=>by rw [I.oJ hl hqx]; exact hx,fun l hl=>by rw [I.oJ hl hqy]; exact hy⟩,⟨z'',?_,⟨u,u2,?_⟩,?_,?_⟩,fun c hcm=>?_⟩
    · exact (sb.2 _ D.TIz).trans (hk _ _ D.TIz D.TITO D.TIi1 D.TIi2 hTI)
    · exact (sb.2 _ D.TOz).trans TO'
    · exact h1'.at fun o q=>(sb.2 _ D.i1z).trans q
    · exact h2'.at fun o q=>(sb.2 _ D.i2z).trans q
    · have hlt:c < s.heap.objs.size:=by
        have e':c=z∨c=TI∨c=TO∨c=i1∨c=i2:=by simpa using hcm
        rcases e' with q | q | q | q | q
        · rw [q]; exact hzl
        · rw [q]; exact Heap.lt_size hTI
        · rw [q]; exact Heap.lt_size hTO
        · rw [q]; obtain ⟨_,e1,_⟩:=h1; exact Heap.lt_size e1
        · rw [q]; obtain ⟨_,e2,_⟩:=h2; exact Heap.lt_size e2
      rw [au (Nat.ne_of_lt hlt)]
      exact (hf c hcm).1
  done:=by
    intro X hP hw hK hc i pins s σ H E I hf st hg
    subst hP hw hK
    obtain ⟨hz,hTI,⟨x0,y0,hTO⟩,h1,h2⟩:=st
    obtain ⟨xs,ys,hqx,hqy,hend⟩:=hg
    obtain ⟨its,rv,p,_⟩:=I.list hqx
    obtain ⟨its2,rv2,p2,_⟩:=I.list hqy
    have l1:=rv.length
    have l2:=rv2.length
    have he:its.toArray[i]?=none∨its2.toArray[i]?=none:=by
      rcases hend with q | q
      · exact .inl (by simp; omega)
      · exact .inr (by simp; omega)
    exact wpAny_pyNext_zip_end (I.ok.hd hc) D hz hTI hTO h1 h2 p.isList p2.isList he fun h' hk=>⟨rfl,I.Lq (t':=s.toks) (ch:=[z,TI,TO,i1,i2]) (fun c o hb q =>
      hk c o (fun q'=>hb (by simp [q'])) (fun q'=>hb (by simp [q'])) (fun q'=>hb (by simp [q'])) (fun q'=>hb (by simp [q'])) q) hf⟩
  self:=fun A i s Q E st h=>wpAny_pyIter_zip st.1 h
def Uq (K:PySem.W.Frag) (ta:TA):TI:=fun σ H R=>ta σ H fun vs H1=>∃ a b xs ys,vs=[.ref a,.ref b]∧bG K H1 a xs∧bG K H1 b ys∧R (S9 K a b) H1
theorem QB {X:Cx} {e e2:Expr} {ta:TA} {p pos tpos:Pos} {elts:List Expr} {kk:Nat} (hg:Gl X "zip") (hm:X.mg "zip"=none) (ha:PA X [e,e2] ta)
    (hs:starEach [e,e2] X.env=(false,eval e X.env) :: starEach [e2] X.env:=by rfl) (hpl:(backTo pos (starEach [e2] X.env)).any (·.1)=false:=by rfl) :
    PI X (.Tuple elts kk tpos) (.Call (.Name "zip" p) [e,e2] [] pos) (Uq X.K ta):=by
  intro pins s σ H R I h
  refine Call_ (qb I hg hm Hh (PyProof.Rows.callWith_type1 (cP (ha pos pins s σ H _ I h) fun us s1 ⟨vs,H1,I1,r1,q1⟩=>?_) hs hpl))
  obtain ⟨a,b,xs,ys,ex,hqx,hqy,q⟩:=q1
  subst ex
  cases r1 with
  | cons r rr =>
    cases rr with
    | cons r' rr =>
      cases rr
      cases r
      cases r'
      obtain ⟨its,rv,p1,_⟩:=I1.list hqx
      obtain ⟨its2,rv2,p2,_⟩:=I1.list hqy
      have la:a < s1.heap.objs.size:=p1.lt
      have lb:b < s1.heap.objs.size:=p2.lt
      refine call_zip_2 p1.isList p2.isList fun h' hz hTI hTO h1 h2 hsz hk=>wpAny_pyIter_zip hz ?_
      have I2:Inv X pins σ H1 { s1 with heap:=h' }:=I1.kept (t':=s1.toks) hk
      refine ⟨s1.heap.objs.size+4,[s1.heap.objs.size+4,s1.heap.objs.size+2,s1.heap.objs.size+3,s1.heap.objs.size,s1.heap.objs.size+1],_,_,H1,rfl,I2,HS (PySem.W.ktu_apart s1.heap.objs.size a b la lb),⟨hz,hTI,⟨_,_,hTO⟩,h1,h2⟩,fun c hcm=>?_,q⟩
      have e':c=s1.heap.objs.size+4∨c=s1.heap.objs.size+2∨c=s1.heap.objs.size+3∨c=s1.heap.objs.size∨c=s1.heap.objs.size+1:=by simpa using hcm
      have hle:s1.heap.objs.size≤c:=by
        rcases e' with z | z | z | z | z
        · rw [z]; exact Nat.le_add_right _ _
        · rw [z]; exact Nat.le_add_right _ _
        · rw [z]; exact Nat.le_add_right _ _
        · rw [z]; exact Nat.le_refl _
        · rw [z]; exact Nat.le_add_right _ _
      exact I1.GQ hle (I1.hok.fresh hle)
end L2
section
namespace Bits
open PySem PyProof.Rows
end Bits
end
section
namespace TL
open PySem PySem.Builtin PySem.Builtin.Str PySem.StrLaws
abbrev tl (x:Str):List Nat:=x.cps.toList
theorem p_ (x:Str):x.length=(tl x).length:=by simp [tl,Str.length]
theorem Ku {x y:Str} (h:tl x=tl y):x=y:=Str.ext' (Array.toList_inj.mp h)
theorem vL (x y:Str):tl (x++y)=tl x++tl y:=by
  show (x++y).cps.toList=_
  rw [Str.cps_append,Array.toList_append]
theorem Cq (l:List Nat):tl ⟨l.toArray⟩=l:=rfl
theorem yq (s:String):tl (Str.ofString s)=s.toList.map Char.toNat:=PyProof.Rows.signs_ofString s
def Sd (n:Nat):List Nat:=(Nat.toDigits 10 n).map Char.toNat
theorem Af (n:Nat):tl (Str.ofString (toString ((n:Nat):Int)))=Sd n:=PySem.W.KIN.signs_num n
theorem yW {n k:Nat} (hk:0 < k) (h:n < 10 ^ k):(Sd n).length≤k:=by
  have z:=PyProof.Rows.toString_length_le (v:=(n:Int)) (by omega) hk (by
    have e:((10:Int) ^ k)=((10 ^ k:Nat):Int):=by
      first
        | exact (Int.natCast_pow 10 k).symm
        | simp
    rw [e]
    first | exact Int.ofNat_lt.mpr h | omega)
  rw [p_,Af] at z
  exact z
end TL
end
namespace L2
open PySem PySem.Spec PyProof.Rows
section
variable {X:Cx} {pins:List (Addr×Obj)} {σ:St} {H:Hp} {s:Shared} {Q:VK}
end
section
variable {X:Cx}
theorem Vi {id:String} {C:Str→Prop} {g:Str→V} (rule:∀ (a:Str) (t:Tok) (s:Shared) (Q:Value→Shared→Prop),C a→(∀ (u:Value) (k:Nat),RelV (g a) u→Q u { s with toks:=k }) →
    wpAny (model X.prog X.w) X.A (call (.builtin id) [.str a t]) Q X.xe s):PN X id (fun x xs H Q=>∃ a,x=.str a∧xs=[]∧C a∧Q (g a) H):=by
  intro pins s σ H x xs v us Q I rx rs h
  obtain ⟨a,rfl,rfl,hc,h⟩:=h
  obtain ⟨t,rfl⟩:=rx
  cases rs
  exact rule a t s _ hc fun u k r=>⟨g a,H,I.tok k,r,h⟩
theorem Bq:PN X "str.isdigit" (fun x xs H Q=>∃ a,x=.str a∧xs=[]∧True∧Q (.bl (Txt.isdigit a)) H) :=
  Vi (C:=fun _=>True) (g:=fun a=>.bl (Txt.isdigit a)) fun _ _ s _ _ h=>PySem.SC.isdigit (h _ s.toks rfl)
theorem U0 {id:String} {g:Str→Str→V} (rule:∀ (a b:Str) (t u:Tok) (s:Shared) (Q:Value→Shared→Prop),(∀ (v:Value) (k:Nat),RelV (g a b) v→Q v { s with toks:=k }) →
    wpAny (model X.prog X.w) X.A (call (.builtin id) [.str a t,.str b u]) Q X.xe s):PN X id (fun x xs H Q=>∃ a b,x=.str a∧xs=[.str b]∧Q (g a b) H):=by
  intro pins s σ H x xs v us Q I rx rs h
  obtain ⟨a,b,rfl,rfl,h⟩:=h
  obtain ⟨t,rfl⟩:=rx
  cases rs with
  | cons r1 rs =>
    cases rs
    obtain ⟨u,rfl⟩:=r1
    exact rule a b t u s _ fun v k r=>⟨g a b,H,I.tok k,r,h⟩
theorem vo:PN X "str.startswith" (fun x xs H Q=>∃ a b,x=.str a∧xs=[.str b]∧Q (.bl (Txt.startswith a b)) H) :=
  U0 (g:=fun a b=>.bl (Txt.startswith a b)) fun _ _ _ _ s _ h=>PySem.SC.startswith (h _ s.toks rfl)
theorem y_:PN X "str.endswith" (fun x xs H Q=>∃ a b,x=.str a∧xs=[.str b]∧Q (.bl (Txt.endswith a b)) H) :=
  U0 (g:=fun a b=>.bl (Txt.endswith a b)) fun _ _ _ _ s _ h=>PySem.SC.endswith (h _ s.toks rfl)
theorem xX:lY X (.type "int") (fun xs H Q=>∃ a n,xs=[.str a]∧PySem.intText? a=some n∧a.length≤640∧Q (.int n) H):=by
  intro pins s σ H xs us Q I rs h
  obtain ⟨a,n,rfl,hn,hl,h⟩:=h
  cases rs with
  | cons r1 rs =>
    cases rs
    obtain ⟨t,rfl⟩:=r1
    exact PySem.W.KIN.call_text hn hl ⟨.int n,H,I.tok _,⟨_,rfl⟩,h⟩
end
section
variable {X:Cx} {o e:Expr} {to te:TE}
end
end L2
namespace L2
open PySem PySem.Spec PyProof.Rows
section
variable {X:Cx}
end
theorem IsPart.raw {v:Value} {o:Option Int} (p:IsPart v o):∃ l:Option (Int×Tok),v=partValue l∧l.map (·.1)=o:=by
  cases p with
  | none=>exact ⟨none,rfl,rfl⟩
  | int i t=>exact ⟨some (i,t),rfl,rfl⟩
def zN (n d:Nat):Option Int→Int
  | none=>(d:Int)
  | some i=>max 0 (min (if i < 0 then i+(n:Int) else i) (n:Int))
theorem zM (n d:Nat) (o:Option Int):zN n d o=((HT.gB n d o:Nat):Int):=by
  cases o with
  | none=>rfl
  | some v =>
    show max (0:Int) (min (if v < 0 then v+(n:Int) else v) (n:Int))=(((if v < 0 then (v+(n:Int)).toNat else min v.toNat n):Nat):Int)
    by_cases hv:v < 0
    · simp only [if_pos hv]
      omega
    · simp only [if_neg hv]
      omega
theorem Eu (a b:Option Int) (n:Nat):Builtin.Str.strSliceIndices a b 1 n=sliceRange (zN n 0 a) (zN n n b) 1:=by
  have h1:((1:Int) > 0)=True:=by simp
  cases a <;> cases b <;> first
    | rfl
    | (simp only [Builtin.Str.strSliceIndices,zN,h1,if_true]; rfl)
    | simp [Builtin.Str.strSliceIndices,zN]
theorem T6 (a b:Option Int) (n:Nat):Builtin.Str.strSliceIndices a b 1 n=(List.range (HT.gB n n b - HT.gB n 0 a)).map (fun k=>HT.gB n 0 a+k):=by
  rw [Eu,zM,zM]
  generalize HT.gB n 0 a=p
  generalize HT.gB n n b=q
  simp only [sliceRange,show ((1:Int) > 0)=True from by simp,if_true]
  by_cases hlt:(p:Int) < q
  · have e3:(((q:Int) - p+1 - 1) / 1).toNat=q - p:=by first | omega | (simp; done) | (simp; omega)
    simp only [hlt,if_true,e3]
    refine List.map_congr_left fun k _=>?_
    omega
  · have:q - p=0:=by omega
    simp [hlt,this]
def Og (z:Str) (lo hi:Option Int):Str :=
  ⟨((z.cps.toList.drop (HT.gB z.length 0 lo)).take (HT.gB z.length z.length hi - HT.gB z.length 0 lo)).toArray⟩
theorem lQ (z:Str) (lo hi:Option Int):PySem.StrLaws.sliceText z lo hi=Og z lo hi:=by
  have h1:HT.gB z.length 0 lo≤z.length:=HT.Jf _ _ (Nat.zero_le _) _
  have h2:HT.gB z.length z.length hi≤z.length:=HT.Jf _ _ (Nat.le_refl _) _
  have hp:HT.gB z.length 0 lo≤max (HT.gB z.length 0 lo) (HT.gB z.length z.length hi):=Nat.le_max_left _ _
  have hq:max (HT.gB z.length 0 lo) (HT.gB z.length z.length hi)≤z.length:=Nat.max_le.mpr ⟨h1,h2⟩
  have hd:max (HT.gB z.length 0 lo) (HT.gB z.length z.length hi) - HT.gB z.length 0 lo=HT.gB z.length z.length hi - HT.gB z.length 0 lo:=by omega
  have e:Builtin.Str.strSliceIndices lo hi 1 z.length =
      Builtin.Str.strSliceIndices (some ((HT.gB z.length 0 lo:Nat):Int)) (some ((max (HT.gB z.length 0 lo) (HT.gB z.length z.length hi):Nat):Int)) 1 z.length:=by
    rw [PySem.StrLaws.strSliceIndices_plain hp hq,hd,T6]
  have e2:PySem.StrLaws.sliceText z lo hi =
      PySem.StrLaws.sliceText z (some ((HT.gB z.length 0 lo:Nat):Int)) (some ((max (HT.gB z.length 0 lo) (HT.gB z.length z.length hi):Nat):Int)):=by
    unfold PySem.StrLaws.sliceText
    rw [e]
  rw [e2,PySem.StrLaws.sliceText_nat z hp hq,hd]
  rfl
theorem rF (z:Str) (lo hi:Option Int):(Og z lo hi).length≤z.length:=by
  show (((z.cps.toList.drop (HT.gB z.length 0 lo)).take (HT.gB z.length z.length hi - HT.gB z.length 0 lo)).toArray).size≤z.cps.size
  rw [List.size_toArray,List.length_take,List.length_drop,Array.length_toList]
  omega
def T9:V→Option Int→Option Int→Hp→VK→Prop:=fun x lo hi H Q=>∃ z,x=.str z∧z.length≤sizeLine∧Q (.str (Og z lo hi)) H
theorem Qo {X:Cx}:UL X T9:=by
  intro pins s σ H x v vl vu lo hi sl Q I rx hs pl pu h
  obtain ⟨z,rfl,hz,q⟩:=h
  obtain ⟨t,rfl⟩:=rx
  obtain ⟨os,hos,hcs,hds⟩:=hs
  obtain ⟨l,rfl,rfl⟩:=IsPart.raw pl
  obtain ⟨u,rfl,rfl⟩:=IsPart.raw pu
  refine ⟨"str",_,F.slot_str_getitem.lookup,typeIs_str _ _ _,?_⟩
  refine wpAny_getItem_str_slice (l:=l) (u:=u) (st:=none) ⟨os,hos,hcs,hds⟩ rfl ?_
  have hl:(PySem.StrLaws.sliceText z (l.map (·.1)) (u.map (·.1))).length≤sizeLine:=by
    rw [lQ]
    exact Nat.le_trans (rF z _ _) hz
  rw [← lQ] at q
  unfold PySem.StrLaws.sliceText at q hl
  show Made.post (if ((1:Int)==1 && (Builtin.Str.strSliceIndices (l.map (·.1)) (u.map (·.1)) 1 z.length).length==z.length)=true then Made.val (.str z t)
    else Made.str ⟨((Builtin.Str.strSliceIndices (l.map (·.1)) (u.map (·.1)) 1 z.length).filterMap (z.cps[·]?)).toArray⟩) (EP X pins σ Q) s
  by_cases c:((1:Int)==1 && (Builtin.Str.strSliceIndices (l.map (·.1)) (u.map (·.1)) 1 z.length).length==z.length)=true
  · rw [if_pos c] at q ⊢
    exact ⟨.str z,H,I,⟨t,rfl⟩,q⟩
  · rw [if_neg c] at q hl ⊢
    exact ⟨hl,.str _,H,I.tok _,⟨_,rfl⟩,q⟩
end L2
namespace Att
open PySem PySem.W PySem.Calls PyProof.Rows
section
variable {prog:Program} {w:World} {A:Around} {E:Value→Shared→Prop} {s:Shared} {K:Frag}
end
end Att
namespace L2
open PySem PySem.Spec PyProof.Rows
end L2
namespace L2
open PySem PySem.Spec PyProof.Rows
end L2
/- THE LAST THEOREM (shape; LID,My.* are yours):
   My.Adr: a structure of the addresses that your layer names (classes,functions); My.Txt K t: a structure (Prop) of the equations over K;
   My.txt_mk:{K} {implicit addresses ..} (e1:nsIn K mainGlobals "law"=some (some (.ref f))) (e2:K.lookup f=some ⟨oc,od,.func (fnOf "law" "law" params body scope dV kV doc pm an cdv ct),sl⟩) (e3:codeIn K cdv "law"=true) ..:∃ t,My.Txt K t
set_option maxRecDepth 100000 in
set_option maxHeartbeats 0 in
theorem PySem.Challenge.cw_LID_holds : PySem.Challenge.rw_LID.Holds := by
  w_on; o_law; k_head; (case hw=>w_witness2)
  k_fill
  refine L2.walk_of (l:=PySem.Challenge.rw_LID) (n:=63) (k:=40) (x:="script") (CX:=fun w=>..) (sp:=fun _=>My.sp_law) rfl (by decide) rfl ⟨rfl,by decide,by decide⟩ (fun w h Y=>PySem.W.kIn_of Y) ?F ?S ?C
  case F =>
    intro w mg fa h KX G hmg
    have T:∃ t,My.Txt (L2.KOf KX) t:=by
      dsimp only [L2.KOf]                          -- K must stand as «<heap const> w.params» for k_is
      refine' My.txt_mk ?e1 ?e2 ?e3 ..
      (case e1=>PySem.W.k_is)                    -- in the order: a name -> its address -> its object -> its parts
      (case e2=>PySem.W.k_is)
      ..
    obtain ⟨t,T⟩:=T
    have e0:=hmg.symm.trans (PySem.W.mg_of KX G T.law)
    cases e0                                       -- fa is the law's own address
    exact ⟨_,fun s u=>.of_eq rfl,fun base kb nb=>My.law_fn T kb nb⟩     -- if «.of_eq rfl» comes too early: refine' ⟨_,?b,fun base kb nb=>My.law_fn T kb nb⟩; exact fun s u=>.of_eq rfl
  case S=>exact fun w H a ns hl hO hS=>..
  case C=>exact ..
(the tactic k_is has no namespace: write k_is) -/
namespace L2
open PySem PySem.Spec PyProof.Rows
def inClass (s:Stmt) (j:Nat):Stmt:=match s with
  | .ClassDef _ _ _ body _ _ _ _ _ _ _=>body.getD j (.Pass ⟨0,0,0,0⟩)
  | _=>.Pass ⟨0,0,0,0⟩
def lB (s:Stmt):Arguments:=match s with
  | .FunctionDef _ a _ _ _ _ _ _ _ _=>a
  | _=>{ posonlyargs:=[],args:=[],vararg:=none,kwonlyargs:=[],kw_defaults:=[],kwarg:=none,defaults:=[] }
def jl (s:Stmt):List Stmt:=match s with
  | .FunctionDef _ _ b _ _ _ _ _ _ _=>b
  | _=>[]
def aD (s:Stmt):Scope:=match s with
  | .FunctionDef _ _ _ _ _ _ sc _ _ _=>sc
  | _=>{ kind:=.function,names:=[],isGenerator:=false,isCoroutine:=false }
abbrev E0:XK:=fun _ _ _=>False
structure jA (K:PySem.W.Frag) (x qual:Str) (st:Stmt) (f:Addr) (fd:FuncData):Prop where
  ex:∃ (oc:Value) (od:Option Addr) (kV doc pm:Value) (an:Option Addr) (cdv ct:Value) (osl:Array (Option Value)),
    fd=PySem.W.fnOf x qual (lB st) (jl st) (aD st) .none kV doc pm an cdv ct∧K.lookup f=some ⟨oc,od,.func fd,osl⟩∧PySem.W.codeIn K cdv qual=true
  kp:PySem.W.keepIn K (.ref f)=true
section
variable {P:Program} {w:World} {K:PySem.W.Frag} {mg:Str→Option Value} {base:Heap}
theorem jA.binds {x qual:Str} {st:Stmt} {f:Addr} {fd:FuncData} {ps:List Str} (F:jA K x qual st f fd)
    (h:∀ (kV doc pm:Value) (an:Option Addr) (cdv ct:Value) (us:List Value),us.length=ps.length→bindArgs (PySem.W.fnOf x qual (lB st) (jl st) (aD st) .none kV doc pm an cdv ct) ⟨us,[]⟩=pure (ps.zip us)):Binds K fd ps []:=by
  obtain ⟨oc,od,kV,doc,pm,an,cdv,ct,osl,rfl,lk,hcd⟩:=F.ex
  exact .all (h kV doc pm an cdv ct)
theorem qe {x qual:Str} {st:Stmt} {f:Addr} {oc:Value} {od an:Option Addr} {osl:Array (Option Value)} {kV doc pm cdv ct:Value} (l:K.lookup f=some ⟨oc,od,.func (PySem.W.fnOf x qual (lB st) (jl st) (aD st) .none kV doc pm an cdv ct),osl⟩)
    (c:PySem.W.codeIn K cdv qual=true) (k:PySem.W.keepIn K (.ref f)=true):jA K x qual st f (PySem.W.fnOf x qual (lB st) (jl st) (aD st) .none kV doc pm an cdv ct):=⟨⟨oc,od,kV,doc,pm,an,cdv,ct,osl,rfl,l,c⟩,k⟩
end
section
variable {X:Cx}
theorem pv (i:Nat) {x:Str} {pos:Pos} (hN:X.N[i]?=some x:=by rfl) (hv:RL X.env.scope x:=by first | exact Or.inl rfl | exact Or.inr (Or.inl rfl) | exact Or.inr (Or.inr rfl)) (hd:(x==("__debug__" : Str))=false:=by decide)
    (hcd:(x==("__classdict__" : Str))=false:=by decide):PE X (.Name x pos) (jE i):=Jz hN hv hd hcd
end
theorem aZ {A B:Prop} (h:B):if false=true then A else B:=by
  rw [if_neg Bool.false_ne_true]
  exact h
theorem cF {A B:Prop} (h:A):if true=true then A else B:=by
  rw [if_pos rfl]
  exact h
theorem bO {c A B:Prop} [Decidable c] (h1:c→A) (h2:¬ c→B):if c then A else B:=by
  by_cases h:c
  · rw [if_pos h]
    exact h1 h
  · rw [if_neg h]
    exact h2 h
def az (H H':Hp):Prop:=∀ b o,H b=some o→H' b=some o
theorem az.refl (H:Hp):az H H:=fun _ _ h=>h
theorem az.trans {H H1 H2:Hp} (a:az H H1) (b:az H1 H2):az H H2:=fun c o h=>b c o (a c o h)
theorem az.free {H H':Hp} (e:az H H') {l:Addr} (h:H' l=Option.none):H l=Option.none:=by
  cases q:H l with
  | none=>rfl
  | some o =>
    rw [e l o q] at h
    cases h
theorem az.seq {K:PySem.W.Frag} {H H':Hp} {a:Addr} {xs:List V} (e:az H H') (h:bG K H a xs):bG K H' a xs:=by
  rcases h with (h | ⟨o,h⟩) | h
  · exact .inl (.inl (e _ _ h))
  · exact .inl (.inr ⟨o,e _ _ h⟩)
  · exact .inr h
section
variable {κ:Type} [DecidableEq κ]
end
theorem at_of {xs:List V} {z:Int} {j:Nat} {v:V} (e:z=(j:Int)) (h:xs[j]?=some v):lF xs z=some v:=by
  rw [e]
  exact jr h
end L2
end
section
section
set_option Elab.async false
set_option linter.all false
set_option maxRecDepth 100000
set_option maxHeartbeats 2000000
namespace L2
open PySem PySem.Spec PyProof.Rows
open PySem.W (WData Codec OpenSpec Well WellAll ReadsW ReadsAllW)
mutual
inductive Dw (K:PySem.W.Frag) (H:Hp):V→WData→Prop
  | non:Dw K H .non .none
  | bl (b:Bool):Dw K H (.bl b) (.bool b)
  | int (i:Int):Dw K H (.int i) (.int i)
  | str (x:Str):Dw K H (.str x) (.str x)
  | byt (b:Array UInt8):Dw K H (.byt b) (.bytes b.toList)
  | lst {a:Addr} {xs:List V} {ds:List WData}:bG K H a xs→jB K H xs ds→Dw K H (.ref a) (.list ds)
  | tup {a:Addr} {xs:List V} {ds:List WData}:dY K H a xs→jB K H xs ds→Dw K H (.ref a) (.tuple ds)
inductive jB (K:PySem.W.Frag) (H:Hp):List V→List WData→Prop
  | nil:jB K H [] []
  | cons {v:V} {vs:List V} {d:WData} {ds:List WData}:Dw K H v d→jB K H vs ds→jB K H (v :: vs) (d :: ds)
end
theorem DN {K:PySem.W.Frag} {H:Hp}:∀ ns:List Int,jB K H (ns.map V.int) (ns.map WData.int)
  | []=>.nil
  | n :: r=>.cons (.int n) (DN r)
theorem xN {K:PySem.W.Frag} {H:Hp}:∀ (ns:List Int) (xs:List V),jB K H xs (ns.map WData.int)→xs=ns.map V.int
  | [],xs,h=>by
    cases h
    rfl
  | n :: r,xs,h=>by
    cases h with
    | cons h1 h2 =>
      cases h1
      rw [xN r _ h2] <;> rfl
section
variable {P:Program} {w:World} {K:PySem.W.Frag} {H:Hp} {h:Heap} {R:PySem.W.WRecords} {cl:Str→Option Addr}
theorem Qj {a:Addr} {xs:List V} (hok:lN P w H h) (KX:K.In h) (q:bG K H a xs):∃ (its:List Value) (o:Obj) (n:Nat),Vals xs its∧h.get? a=some o∧o.cls=.type "list"∧o.data=.seq its.toArray n:=by
  rcases q with q | ⟨o,its,n,e,hc,_,hd,_,hv⟩
  · obtain ⟨_,its,n,hv,e⟩:=(show cX P w H h a (.lst xs) from q.ok hok)
    exact ⟨its,_,n,hv,e,rfl,rfl⟩
  · exact ⟨its.toList,o,n,hv,KX _ _ e,hc,by simp [hd]⟩
theorem Qi {a:Addr} {xs:List V} (hok:lN P w H h) (KX:K.In h) (q:dY K H a xs):∃ (its:List Value) (o:Obj) (n:Nat),Vals xs its∧h.get? a=some o∧o.cls=.type "tuple"∧o.data=.seq its.toArray n:=by
  rcases q with q | ⟨o,its,n,e,hc,hd,_,hv⟩
  · obtain ⟨_,its,hv,o,e,hc,n,hd⟩:=(show cX P w H h a (.tup xs) from q.ok hok)
    exact ⟨its,o,n,hv,e,hc,hd⟩
  · exact ⟨its.toList,o,n,hv,KX _ _ e,hc,by simp [hd]⟩
mutual
theorem Dw.reads (hok:lN P w H h) (KX:K.In h):∀ (d:WData) (v:V) (u:Value),Dw K H v d→RelV v u→∃ as,ReadsW R cl h u d as
  | .none,_,_,x,r=>by
    cases x
    cases r
    exact ⟨_,ReadsW.none⟩
  | .bool b,_,_,x,r=>by
    cases x
    cases r
    exact ⟨_,ReadsW.bool b⟩
  | .int i,_,_,x,r=>by
    cases x
    obtain ⟨t,rfl⟩:=r
    exact ⟨_,ReadsW.int i t⟩
  | .str s,_,_,x,r=>by
    cases x
    obtain ⟨t,rfl⟩:=r
    exact ⟨_,ReadsW.str s t⟩
  | .bytes b,_,_,x,r=>by
    cases x
    obtain ⟨t,rfl⟩:=r
    exact ⟨_,ReadsW.bytes _ t⟩
  | .list ds,_,_,x,r=>by
    cases x with
    | lst hs ha =>
      cases r
      obtain ⟨its,o,n,rv,ho,hc,hd⟩:=Qj hok KX hs
      obtain ⟨as,hr⟩:=Dw.readsAll hok KX ds _ its ha rv
      exact ⟨_,ReadsW.list ho hc hd hr⟩
  | .tuple ds,_,_,x,r=>by
    cases x with
    | tup hs ha =>
      cases r
      obtain ⟨its,o,n,rv,ho,hc,hd⟩:=Qi hok KX hs
      obtain ⟨as,hr⟩:=Dw.readsAll hok KX ds _ its ha rv
      exact ⟨_,ReadsW.tuple ho hc hd hr⟩
  | .float _,_,_,x,_=>by cases x
  | .dict _,_,_,x,_=>by cases x
  | .bytearray _,_,_,x,_=>by cases x
  | .set _,_,_,x,_=>by cases x
  | .frozenset _,_,_,x,_=>by cases x
  | .obj _ _,_,_,x,_=>by cases x
theorem Dw.readsAll (hok:lN P w H h) (KX:K.In h):∀ (ds:List WData) (vs:List V) (us:List Value),jB K H vs ds→Vals vs us→∃ as,ReadsAllW R cl h us ds as
  | [],_,_,x,r=>by
    cases x
    cases r
    exact ⟨_,ReadsAllW.nil⟩
  | d :: ds,_,_,x,r=>by
    cases x with
    | cons h1 h2 =>
      cases r with
      | cons r1 r2 =>
        obtain ⟨as,q1⟩:=Dw.reads hok KX d _ _ h1 r1
        obtain ⟨bs,q2⟩:=Dw.readsAll hok KX ds _ _ h2 r2
        exact ⟨_,ReadsAllW.cons q1 q2⟩
end
end
mutual
def De:WData→Bool
  | .none=>true
  | .bool _=>true
  | .int _=>true
  | .str _=>true
  | .bytes _=>true
  | .list xs=>rH xs
  | .tuple xs=>rH xs
  | _=>false
def rH:List WData→Bool
  | []=>true
  | x :: r=>De x && rH r
end
theorem yO {α:Type} {f:α→WData} (h:∀ a,De (f a)=true):∀ l:List α,rH (l.map f)=true
  | []=>rfl
  | x :: r=>by
    show (De (f x) && rH (r.map f))=true
    rw [h x,yO h r] <;> rfl
theorem jW:∀ (c:Codec) (a:c.denote),De (c.enc a)=true
  | .unit,_=>rfl
  | .bool,_=>rfl
  | .int _ _,_=>rfl
  | .nat _ _,_=>rfl
  | .u8,_=>rfl
  | .bytes _ _,_=>rfl
  | .text _ _ _ _,_=>rfl
  | .list _ _ c,a=>yO (fun x=>jW c x) a
  | .pair c d,a=>by
    show (De (c.enc a.1) && (De (d.enc a.2) && true))=true
    rw [jW c a.1,jW d a.2] <;> rfl
  | .triple c d e,a=>by
    show (De (c.enc a.1) && (De (d.enc a.2.1) && (De (e.enc a.2.2) && true)))=true
    rw [jW c a.1,jW d a.2.1,jW e a.2.2] <;> rfl
  | .option c,none=>rfl
  | .option c,some x=>jW c x
theorem vV:∀ (cs:List Codec) (a:Codec.denoteAll cs),rH (Codec.encAll cs a)=true
  | [],_=>rfl
  | c :: cs,a=>by
    show (De (c.enc a.1) && rH (Codec.encAll cs a.2))=true
    rw [jW c a.1,vV cs a.2] <;> rfl
theorem lZ:∀ {xs:List WData} {d:WData},d∈xs→d.weight≤WData.weightAll xs
  | [],d,h=>absurd h (by simp)
  | x :: r,d,h=>by
    show d.weight≤x.weight+1+WData.weightAll r
    rcases List.mem_cons.mp h with e | m
    · rw [e]
      omega
    · have z:=lZ m
      omega
def toV:Value→V
  | .none=>.non
  | .bool b=>.bl b
  | .int i _=>.int i
  | .str x _=>.str x
  | .bytes b _=>.byt b
  | .ref a=>.ref a
  | _=>.non
def Hw (A:List Addr):Value→Prop
  | .none=>True
  | .bool _=>True
  | .int _ _=>True
  | .str _ _=>True
  | .bytes _ _=>True
  | .ref a=>a∈A
  | _=>False
theorem Hw.mono {A B:List Addr} (h:∀ a∈A,a∈B):∀ {u:Value},Hw A u→Hw B u:=fun {u} x=>by
  cases u with
  | ref a=>exact h a x
  | none=>trivial
  | bool b=>trivial
  | int i t=>trivial
  | str s t=>trivial
  | bytes b t=>trivial
  | _=>exact False.elim x
theorem Jm {A:List Addr} {u:Value} (x:Hw A u):RelV (toV u) u:=by
  cases u with
  | ref a=>rfl
  | none=>rfl
  | bool b=>rfl
  | int i t=>exact ⟨t,rfl⟩
  | str s t=>exact ⟨t,rfl⟩
  | bytes b t=>exact ⟨t,rfl⟩
  | _=>exact False.elim x
theorem iQ {A:List Addr}:∀ {vs:List Value},(∀ u∈vs,Hw A u)→Vals (vs.map toV) vs
  | [],_=>.nil
  | u :: r,h=>.cons (Jm (h u (List.mem_cons_self ..))) (iQ fun x hx=>h x (List.mem_cons_of_mem _ hx))
def jD (h:Heap) (A:List Addr) (a:Addr):Prop:=∃ vs:List Value,vs.length≤sizeLine∧(∀ u∈vs,Hw A u) ∧
  (h.get? a=some { cls:=.type "list",data:=.seq vs.toArray }∨h.get? a=some { cls:=.type "tuple",data:=.seq vs.toArray })
theorem jD.mono {h:Heap} {A B:List Addr} {a:Addr} (k:∀ a∈A,a∈B) (x:jD h A a):jD h B a:=by
  obtain ⟨vs,h1,h2,h3⟩:=x
  exact ⟨vs,h1,fun u hu=>(h2 u hu).mono k,h3⟩
theorem gW {P:Params} {h:Heap}:∀ {vs:List Value} {ds:List WData},WellAll P h vs ds→vs.length=ds.length
  | _,_,.nil=>rfl
  | _,_,.cons _ b=>by
    show _+1=_+1
    rw [gW b]
theorem vH {P:Params} {h:Heap} {v:Value} {ds:List WData} (x:Well P h v (.list ds)):∃ (a:Addr) (vs:List Value),v=.ref a∧h.get? a=some { cls:=.type "list",data:=.seq vs.toArray }∧WellAll P h vs ds:=by
  cases x with
  | list ho hall=>exact ⟨_,_,rfl,ho,hall⟩
theorem sW {P:Params} {h:Heap} {v:Value} {ds:List WData} (x:Well P h v (.tuple ds)):∃ (a:Addr) (vs:List Value),v=.ref a∧h.get? a=some { cls:=.type "tuple",data:=.seq vs.toArray }∧WellAll P h vs ds:=by
  cases x with
  | tuple ho hall=>exact ⟨_,_,rfl,ho,hall⟩
theorem vJ {P:Params} {h:Heap} {us:List Value} {d:WData} {ds:List WData} (x:WellAll P h us (d :: ds)):∃ (v:Value) (vs:List Value),us=v :: vs∧Well P h v d∧WellAll P h vs ds:=by
  cases x with
  | cons a b=>exact ⟨_,_,rfl,a,b⟩
theorem Dq {n:Nat} (h:n≤1048576):n≤sizeLine:=Nat.le_trans h (by decide)
section
variable {P:Params} {h:Heap}
mutual
theorem K9:∀ (d:WData) (v:Value),Well P h v d→De d=true→d.weight≤1048576→∃ A:List Addr,Hw A v∧∀ a∈A,jD h A a
  | .none,_,x,_,_=>by
    cases x
    exact ⟨[],trivial,fun a m=>absurd m (by simp)⟩
  | .bool b,_,x,_,_=>by
    cases x
    exact ⟨[],trivial,fun a m=>absurd m (by simp)⟩
  | .int i,_,x,_,_=>by
    cases x
    exact ⟨[],trivial,fun a m=>absurd m (by simp)⟩
  | .str s,_,x,_,_=>by
    cases x
    exact ⟨[],trivial,fun a m=>absurd m (by simp)⟩
  | .bytes b,_,x,_,_=>by
    cases x
    exact ⟨[],trivial,fun a m=>absurd m (by simp)⟩
  | .list ds,_,x,p,z=>by
    obtain ⟨a,vs,rfl,ho,hall⟩:=vH x
    have z2:WData.weightAll ds≤1048576:=z
    obtain ⟨A,h1,h2⟩:=o7 ds _ hall p fun d hd=>Nat.le_trans (lZ hd) z2
    have k:∀ b∈A,b∈a :: A:=fun b hb=>List.mem_cons_of_mem _ hb
    refine ⟨a :: A,List.mem_cons_self ..,fun b hb=>?_⟩
    rcases List.mem_cons.mp hb with e | m
    · rw [e]
      exact ⟨vs,Dq (by rw [gW hall]; exact Nat.le_trans (PySem.W.length_le_weightAllW ds) z2),fun u hu=>(h1 u hu).mono k,.inl ho⟩
    · exact (h2 b m).mono k
  | .tuple ds,_,x,p,z=>by
    obtain ⟨a,vs,rfl,ho,hall⟩:=sW x
    have z2:WData.weightAll ds≤1048576:=z
    obtain ⟨A,h1,h2⟩:=o7 ds _ hall p fun d hd=>Nat.le_trans (lZ hd) z2
    have k:∀ b∈A,b∈a :: A:=fun b hb=>List.mem_cons_of_mem _ hb
    refine ⟨a :: A,List.mem_cons_self ..,fun b hb=>?_⟩
    rcases List.mem_cons.mp hb with e | m
    · rw [e]
      exact ⟨vs,Dq (by rw [gW hall]; exact Nat.le_trans (PySem.W.length_le_weightAllW ds) z2),fun u hu=>(h1 u hu).mono k,.inr ho⟩
    · exact (h2 b m).mono k
  | .float _,_,_,p,_=>Bool.noConfusion (show false=true from p)
  | .dict _,_,_,p,_=>Bool.noConfusion (show false=true from p)
  | .bytearray _,_,_,p,_=>Bool.noConfusion (show false=true from p)
  | .set _,_,_,p,_=>Bool.noConfusion (show false=true from p)
  | .frozenset _,_,_,p,_=>Bool.noConfusion (show false=true from p)
  | .obj _ _,_,_,p,_=>Bool.noConfusion (show false=true from p)
theorem o7:∀ (ds:List WData) (vs:List Value),WellAll P h vs ds→rH ds=true→(∀ d∈ds,d.weight≤1048576)→∃ A:List Addr,(∀ u∈vs,Hw A u)∧∀ a∈A,jD h A a
  | [],_,x,_,_=>by
    cases x
    exact ⟨[],fun u m=>absurd m (by simp),fun a m=>absurd m (by simp)⟩
  | d :: ds,_,x,p,z=>by
    obtain ⟨v,vs,rfl,x1,x2⟩:=vJ x
    have q:De d=true∧rH ds=true:=Bool.and_eq_true_iff.mp p
    obtain ⟨A,a1,a2⟩:=K9 d v x1 q.1 (z d (List.mem_cons_self ..))
    obtain ⟨B,b1,b2⟩:=o7 ds vs x2 q.2 fun e he=>z e (List.mem_cons_of_mem _ he)
    have kA:∀ b∈A,b∈A++B:=fun b hb=>List.mem_append.mpr (.inl hb)
    have kB:∀ b∈B,b∈A++B:=fun b hb=>List.mem_append.mpr (.inr hb)
    refine ⟨A++B,fun u hu=>?_,fun b hb=>?_⟩
    · rcases List.mem_cons.mp hu with e | m
      · rw [e]
        exact a1.mono kA
      · exact (b1 u m).mono kB
    · rcases List.mem_append.mp hb with m | m
      · exact (a2 b m).mono kA
      · exact (b2 b m).mono kB
end
end
def N5 (o:Obj):Option HO:=match o.data with
  | .seq vs _=>if (o.cls==Value.type "list")=true then some (.frz o (.lst (vs.toList.map toV))) else some (.frz o (.tup (vs.toList.map toV)))
  | _=>none
def jt (K:PySem.W.Frag) (h:Heap) (A:List Addr):Hp:=fun b=>if b∈A then (if (K.lookup b).isNone=true then (h.get? b).bind N5 else none) else none
def Ec (H:Hp):Prop:=∀ b,H b=none∨∃ o u,H b=some (.frz o u)
theorem zu (vs:List Value):N5 { cls:=.type "list",data:=.seq vs.toArray }=some (.frz { cls:=.type "list",data:=.seq vs.toArray } (.lst (vs.map toV))):=by
  show (if (Value.type "list"==Value.type "list")=true then some (HO.frz { cls:=.type "list",data:=.seq vs.toArray } (.lst (vs.toArray.toList.map toV))) else some (HO.frz { cls:=.type "list",data:=.seq vs.toArray } (.tup (vs.toArray.toList.map toV))))=_
  rw [if_pos (beq_self_eq_true _)]
theorem zr (vs:List Value):N5 { cls:=.type "tuple",data:=.seq vs.toArray }=some (.frz { cls:=.type "tuple",data:=.seq vs.toArray } (.tup (vs.map toV))):=by
  show (if (Value.type "tuple"==Value.type "list")=true then some (HO.frz { cls:=.type "tuple",data:=.seq vs.toArray } (.lst (vs.toArray.toList.map toV))) else some (HO.frz { cls:=.type "tuple",data:=.seq vs.toArray } (.tup (vs.toArray.toList.map toV))))=_
  rw [if_neg (by decide)]
section
variable {P:Program} {w:World} {K:PySem.W.Frag} {h:Heap} {A:List Addr}
theorem sU {b:Addr} {o:Obj} (hb:b∈A) (hk:K.lookup b=none) (e:h.get? b=some o):jt K h A b=N5 o:=by
  unfold jt
  rw [if_pos hb,hk,if_pos (show (none:Option Obj).isNone=true from rfl),e] <;> rfl
theorem Nr {b:Addr} {u:HO} (q:jt K h A b=some u):b∈A∧K.lookup b=none:=by
  unfold jt at q
  by_cases hb:b∈A
  · rw [if_pos hb] at q
    cases hk:K.lookup b with
    | none=>exact ⟨hb,rfl⟩
    | some o =>
      rw [hk,if_neg (by simp)] at q
      cases q
  · rw [if_neg hb] at q
    cases q
theorem sS (ar:∀ a∈A,jD h A a) {b:Addr} {u:HO} (q:jt K h A b=some u):K.lookup b=none∧∃ vs:List Value,vs.length≤sizeLine∧(∀ u∈vs,Hw A u) ∧
    ((h.get? b=some { cls:=.type "list",data:=.seq vs.toArray }∧u=.frz { cls:=.type "list",data:=.seq vs.toArray } (.lst (vs.map toV))) ∨
     (h.get? b=some { cls:=.type "tuple",data:=.seq vs.toArray }∧u=.frz { cls:=.type "tuple",data:=.seq vs.toArray } (.tup (vs.map toV)))):=by
  obtain ⟨hb,hk⟩:=Nr q
  obtain ⟨vs,h1,h2,h3⟩:=ar b hb
  refine ⟨hk,vs,h1,h2,?_⟩
  rcases h3 with e | e
  · rw [sU hb hk e,zu] at q
    exact .inl ⟨e,(Option.some.inj q).symm⟩
  · rw [sU hb hk e,zr] at q
    exact .inr ⟨e,(Option.some.inj q).symm⟩
theorem Hs (ar:∀ a∈A,jD h A a):Ec (jt K h A):=fun b=>by
  cases q:jt K h A b with
  | none=>exact .inl rfl
  | some u =>
    obtain ⟨_,vs,_,_,⟨_,e⟩ | ⟨_,e⟩⟩:=sS ar q
    · exact .inr ⟨_,_,by rw [e]⟩
    · exact .inr ⟨_,_,by rw [e]⟩
theorem Ou (ar:∀ a∈A,jD h A a):lN P w (jt K h A) h:=fun b u q=>by
  obtain ⟨_,vs,h1,h2,⟨e,rfl⟩ | ⟨e,rfl⟩⟩:=sS ar q
  · exact ⟨e,by rw [List.length_map]; exact h1,vs,_,iQ h2,e⟩
  · exact ⟨e,by rw [List.length_map]; exact h1,vs,iQ h2,_,e,rfl,_,rfl⟩
theorem rY {c c':Value} {vs us:List Value} (e:(some { cls:=c,data:=.seq vs.toArray }:Option Obj)=some { cls:=c',data:=.seq us.toArray }):c=c'∧vs=us:=by
  have e1:=Option.some.inj e
  have e2:c=c':=congrArg Obj.cls e1
  have e3:Data.seq vs.toArray=Data.seq us.toArray:=congrArg Obj.data e1
  injection e3 with e4
  refine ⟨e2,?_⟩
  have e5:=congrArg Array.toList e4
  simpa using e5
theorem Ux (KX:K.In h) (ar:∀ a∈A,jD h A a) {a:Addr} {vs:List Value} (ha:a∈A) (e:h.get? a=some { cls:=.type "list",data:=.seq vs.toArray }):(∀ u∈vs,Hw A u)∧bG K (jt K h A) a (vs.map toV):=by
  obtain ⟨us,h1,h2,h3⟩:=ar a ha
  have hu:us=vs:=by
    rcases h3 with q | q
    · rw [e] at q
      exact (rY q).2.symm
    · rw [e] at q
      exact absurd (Value.type.inj (rY q).1) (by decide)
  subst hu
  refine ⟨h2,?_⟩
  cases hk:K.lookup a with
  | none=>exact .inl (.inr ⟨_,by rw [sU ha hk e,zu]⟩)
  | some o =>
    have e2:=KX a o hk
    rw [e] at e2
    obtain rfl:=Option.some.inj e2
    exact .inr ⟨_,us.toArray,_,hk,rfl,rfl,rfl,by rw [List.size_toArray]; exact h1,by simpa using iQ h2⟩
theorem Uw (KX:K.In h) (ar:∀ a∈A,jD h A a) {a:Addr} {vs:List Value} (ha:a∈A) (e:h.get? a=some { cls:=.type "tuple",data:=.seq vs.toArray }):(∀ u∈vs,Hw A u)∧dY K (jt K h A) a (vs.map toV):=by
  obtain ⟨us,h1,h2,h3⟩:=ar a ha
  have hu:us=vs:=by
    rcases h3 with q | q
    · rw [e] at q
      exact absurd (Value.type.inj (rY q).1) (by decide)
    · rw [e] at q
      exact (rY q).2.symm
  subst hu
  refine ⟨h2,?_⟩
  cases hk:K.lookup a with
  | none=>exact .inl (.inr ⟨_,by rw [sU ha hk e,zr]⟩)
  | some o =>
    have e2:=KX a o hk
    rw [e] at e2
    obtain rfl:=Option.some.inj e2
    exact .inr ⟨_,us.toArray,_,hk,rfl,rfl,by rw [List.size_toArray]; exact h1,by simpa using iQ h2⟩
mutual
theorem Rg {Pm:Params} (KX:K.In h) (ar:∀ a∈A,jD h A a):∀ (d:WData) (v:Value),Well Pm h v d→De d=true→Hw A v→Dw K (jt K h A) (toV v) d
  | .none,_,x,_,_=>by
    cases x
    exact .non
  | .bool b,_,x,_,_=>by
    cases x
    exact .bl b
  | .int i,_,x,_,_=>by
    cases x
    exact .int i
  | .str s,_,x,_,_=>by
    cases x
    exact .str s
  | .bytes b,_,x,_,_=>by
    cases x
    have z:=Dw.byt (K:=K) (H:=jt K h A) b.toArray
    exact z
  | .list ds,_,x,p,hu=>by
    obtain ⟨a,vs,rfl,ho,hall⟩:=vH x
    obtain ⟨h2,hs⟩:=Ux KX ar hu ho
    exact .lst hs (xT KX ar ds _ hall p h2)
  | .tuple ds,_,x,p,hu=>by
    obtain ⟨a,vs,rfl,ho,hall⟩:=sW x
    obtain ⟨h2,hs⟩:=Uw KX ar hu ho
    exact .tup hs (xT KX ar ds _ hall p h2)
  | .float _,_,_,p,_=>Bool.noConfusion (show false=true from p)
  | .dict _,_,_,p,_=>Bool.noConfusion (show false=true from p)
  | .bytearray _,_,_,p,_=>Bool.noConfusion (show false=true from p)
  | .set _,_,_,p,_=>Bool.noConfusion (show false=true from p)
  | .frozenset _,_,_,p,_=>Bool.noConfusion (show false=true from p)
  | .obj _ _,_,_,p,_=>Bool.noConfusion (show false=true from p)
theorem xT {Pm:Params} (KX:K.In h) (ar:∀ a∈A,jD h A a):∀ (ds:List WData) (vs:List Value),WellAll Pm h vs ds→rH ds=true→(∀ u∈vs,Hw A u)→jB K (jt K h A) (vs.map toV) ds
  | [],_,x,_,_=>by
    cases x
    exact .nil
  | d :: ds,_,x,p,hu=>by
    obtain ⟨v,vs,rfl,x1,x2⟩:=vJ x
    have q:De d=true∧rH ds=true:=Bool.and_eq_true_iff.mp p
    exact .cons (Rg KX ar d v x1 q.1 (hu _ (List.mem_cons_self ..))) (xT KX ar ds vs x2 q.2 fun u m=>hu u (List.mem_cons_of_mem _ m))
end
end
theorem Es {P:Program} {w:World} {K:PySem.W.Frag} {mg mb:Str→Option Value} {CX:Ef} {k:Nat} {fa:Addr} {fd:FuncData} {ps:List Str} {sp:Sp} {s₁:Shared} {vals:List Value} {ds:List WData} {R:PySem.W.WRecords} {cl:Str→Option Addr} {d0:WData}
    (KX:K.In s₁.heap) (hns:s₁.heap.Ns mainGlobals mg) (hb:s₁.heap.Ns builtinsNs mb) (hbb:∀ x:Str,x ≠ "__name__"→mb x=bootBuiltins x) (hlim:s₁.heap.NoLimit) (hg:s₁.gens=#[])
    (hwl:WellAll w.params s₁.heap vals ds) (hpl:rH ds=true) (hwt:∀ d∈ds,d.weight≤1048576) (hr:bH k callerA)
    (F:∀ base:Heap,K.In base→base.Ns mainGlobals mg→aL P w K mg base CX k fa fd ps sp) (hbind:∀ (s:Shared) (us:List Value),us.length=ps.length→BindsTo s fd ⟨us,[]⟩ (ps.zip us)) (hlen:ds.length=ps.length)
    (hsp:∀ (H:Hp) (xs:List V),Ec H→jB K H xs ds→sp xs H (fun v H'=>Dw K H' v d0) fun _ _ _=>False)
    (hCX:∀ H e s',CX [] H s₁ (fun _ _ _=>False) e s'→False) :
    codeAny (model P w) callerA (.call (.ref fa) ⟨vals,[]⟩) (fun r s'=>∃ u as,r=.ok (.ret u)∧ReadsW R cl s'.heap u d0 as∧OldK s₁.heap s'.heap∧s'.os=s₁.os∧AllBare s'.gens) s₁:=by
  obtain ⟨A,ho,ar⟩:=o7 ds vals hwl hpl hwt
  have hO:Ec (jt K s₁.heap A):=Hs ar
  have hok:lN P w (jt K s₁.heap A) s₁.heap:=Ou ar
  have hS:=xT KX ar ds vals hwl hpl ho
  have hV:=iQ ho
  have hK:∀ b u,jt K s₁.heap A b=some u→K.lookup b=none:=fun b u q=>(sS ar q).1
  have noA:∀ {b:Addr} {o:Obj} {es:Array DictEntry} {ep:Nat},s₁.heap.get? b=some o→o.data=.dict es ep→jt K s₁.heap A b=none:=fun {b o es ep} e d=>by
    cases q:jt K s₁.heap A b with
    | none=>rfl
    | some u =>
      obtain ⟨_,vs,_,_,⟨e2,_⟩ | ⟨e2,_⟩⟩:=sS ar q
      · rw [e2] at e
        cases e
        have d':Data.seq vs.toArray _=Data.dict es ep:=d
        cases d'
      · rw [e2] at e
        cases e
        have d':Data.seq vs.toArray _=Data.dict es ep:=d
        cases d'
  generalize jt K s₁.heap A=H at hO hok hS hK noA
  have base_of:∀ {b:Addr} {o:Obj},s₁.heap.get? b=some o→H b=none→(xP s₁.heap H).get? b=some o:=fun e n=>Kh e n
  have nsK:∀ {b:Addr} {m:Str→Option Value},s₁.heap.Ns b m→(xP s₁.heap H).Ns b m:=fun {b m} ⟨o,es,ep,e,d,r⟩=>⟨o,es,ep,base_of e (noA e d),d,r⟩
  have nK:∀ b o,K.lookup b=some o→H b=none:=fun b o e=>by
    cases q:H b with
    | none=>rfl
    | some u =>
      rw [hK b u q] at e
      cases e
  have hKb:K.In (xP s₁.heap H):=fun b o e=>base_of (KX b o e) (nK b o e)
  have hM:Mod K mg (xP s₁.heap H):=⟨hKb,nsK hns,⟨mb,nsK hb,hbb⟩,let ⟨mc,h1,h2⟩:=hlim; ⟨mc,nsK h1,h2⟩⟩
  have e0:Cm P w K mg (xP s₁.heap H) callerA [] s₁ H:=⟨rfl,hM,fun b o e=>Nq e,Nat.le_of_eq (Gy _ _),trivial,fun b hb=>absurd (show b∈([]:List Addr) from hb) (by simp),hok,.of_eq hg⟩
  have hl:vals.length=ps.length:=by rw [gW hwl]; exact hlen
  refine codeAny_mono ((F _ hKb (nsK hns)).run callerA [] s₁ H ⟨vals,[]⟩ vals (vals.map toV) _ _ hr e0 (hbind s₁ vals hl) hV (hsp H _ hO hS)) fun r s' x=>?_
  cases r with
  | error e=>exact (hCX H e s' x).elim
  | ok fl =>
    cases fl with
    | next=>exact False.elim x
    | brk=>exact False.elim x
    | cont=>exact False.elim x
    | ret u =>
      obtain ⟨v,H',os,bare,un,hok',r',q⟩:=x
      have kept:∀ b o,s₁.heap.get? b=some o→s'.heap.get? b=some o:=fun b o e=>by
        cases q2:H b with
        | none=>exact un.keep b o e q2 (by intro z; exact absurd (show b∈([]:List Addr) from z) (by simp)) (by simp)
        | some u2 =>
          rcases hO b with z | ⟨ob,u3,z⟩
          · rw [q2] at z
            cases z
          · have z2:=un.frzs b ob _ z
            obtain ⟨e1,_⟩:=hok b _ z
            obtain ⟨e2,_⟩:=hok' b _ z2
            rw [e] at e1
            cases e1
            exact e2
      have KX':K.In s'.heap:=fun b o e=>kept b o (KX b o e)
      obtain ⟨as,hrd⟩:=Dw.reads (R:=R) (cl:=cl) hok' KX' d0 v u q r'
      exact ⟨u,as,rfl,hrd,OldK.of_keep kept,os,bare⟩
theorem uC {ds:List WData} (h:WData.layableAll ds=true):∀ d∈ds,d.weight≤1048576:=fun d hd =>
  (PySem.W.layableW_iff.mp (List.all_eq_true.mp h d hd)).2.2
theorem uP:∀ (cs:List Codec) (a:Codec.denoteAll cs),(Codec.encAll cs a).length=cs.length
  | [],_=>rfl
  | c :: cs,a=>by
    show (Codec.encAll cs a.2).length+1=cs.length+1
    rw [uP cs a.2]
theorem Ei {r:OpenSpec} {k:Nat} {q:Program} {loose:List Str} {XP:(Str→Option Value)→Heap→Prop} {YP:World→Heap→Prop} {d:DefRec} {K:Params→PySem.W.Frag} {CX:World→Ef} {ps:List Str} {sp:World→Sp}
    (hwell:r.wellSaid=true) (hdf:d.params.defaults=[]) (hlen:r.args.length=ps.length) (hr:bH k callerA)
    (hY:∀ (w:World) (h:Heap),YP w h→(K w.params).In h)
    (F:∀ (w:World) (mg:Str→Option Value) (fa:Addr) (h:Heap),YP w h→(K w.params).In h→h.Ns mainGlobals mg→mg d.name=some (.ref fa) →
      ∃ fd:FuncData,(∀ (s:Shared) (us:List Value),us.length=ps.length→BindsTo s fd ⟨us,[]⟩ (ps.zip us)) ∧
        ∀ base:Heap,(K w.params).In base→base.Ns mainGlobals mg→aL r.prog w (K w.params) mg base (CX w) k fa fd ps (sp w))
    (hsp:∀ (w:World) (H:Hp) (xs:List V) (a:Codec.denoteAll r.args),Ec H→Codec.withinAll r.args a=true→Codec.app r.args r.asked a=true→jB (K w.params) H xs (Codec.encAll r.args a) →
      sp w xs H (fun v H'=>Dw (K w.params) H' v (r.ret.enc (Codec.app r.args r.f a))) fun _ _ _=>False)
    (hCX:∀ (w:World) (H:Hp) (s:Shared) (e:Value) (s':Shared),CX w [] H s (fun _ _ _=>False) e s'→False) :
    PySem.W.WalkOS q loose XP YP r d [] (fun f vs=>PySem.call f vs):=by
  intro w s_0 s₁ mg mb G Y fa o pm cd doc dV kV ho hd hcd hD hmg hg args vals as hpre hlay hrd hwl hlo
  obtain ⟨a,e1,e2⟩:=PySem.W.os_pre_some hpre
  obtain ⟨e3,hwi⟩:=Codec.encAll_of_decAll r.args args a e1
  subst e3
  have KX:=hY w _ Y
  obtain ⟨fd,hb,hF⟩:=F w mg fa _ Y KX G.T.g hmg
  refine PySem.W.enter_call (codeAny_mono (Es (R:=[]) (cl:=classAt s_0.heap) (d0:=r.ret.enc (Codec.app r.args r.f a)) KX G.T.g G.T.b G.T.builtins G.T.nolimit hg hwl (vV _ _) (uC hlay) hr hF hb (by rw [uP]; exact hlen)
    (fun H xs hO hS=>hsp w H xs a hO hwi e2 hS) fun H e s'=>hCX w H s₁ e s') fun r' s' hq=>?_)
  obtain ⟨u,as',rfl,h1,h2,h3,h4⟩:=hq
  exact ⟨.inl ⟨u,_,as',rfl,fun _=>rfl,h1,(OpenSpec.post_iff hwell hwi _ _).mpr rfl,fun z=>Bool.noConfusion (show false=true from z)⟩,h2,h3,h4⟩
end L2
end
end
section
set_option Elab.async false
set_option maxRecDepth 100000
set_option maxHeartbeats 4000000
set_option linter.all false
namespace XL
open PySem
section
variable {prog:Program} {w:World} {A:Around} {R:Result→Shared→Prop} {I:Addr} {fp wr:List Addr} {n:Nat} {P:Nat→Value→Prop} {St:Nat→Heap→Prop}
theorem Gi (W:Walks prog w A.in1 I fp wr n P St) (bt:Nat→Nat→Bool) (hcmp:CmpOf prog w A.in1 .Gt P bt) (S:Addr) (hSf:S∉fp) (dn:Str) (dv:Value) :
    ∀ (k j:Nat) (s:Shared) (old:List Value) (c:Nat),n - j=k→j≤n→St j s.heap→((old=[]∧j=0)∨∃ vb m,j=m+1∧old=[vb,vb]∧P (argBest bt m) vb) →
    s.heap.get? S=some { cls:=.type "list",dict:=none,data:=.seq old.toArray c,slots:=#[] } →
    (∀ v h' tk,((n=0∧v=dv)∨(0 < n∧P (argBest bt (n - 1)) v))→(∀ b o,b∉wr→b≠S→s.heap.get? b=some o→h'.get? b=some o)→R (.ok (.ret v)) { s with heap:=h',toks:=tk }) →
    codeAny (model prog w) A (.builtin "max.loop" ⟨[.ref I,.none,.ref S],[(dn,dv)]⟩) R s:=by
  have nSw:S∉wr:=fun h=>hSf (W.sub _ h)
  have nm:(toString "max"++toString ".loop" : String) = "max.loop":=by decide
  intro k
  induction k with
  | zero =>
    intro j s old c hk hj hst ho hS hR
    obtain rfl:j=n:=by omega
    refine codeAny_builtin F.entry_max_loop ?_
    rw [Around.under_plainId F.plain_max_loop _]
    show wpAny _ A.in1 (seqItems? (.ref S)>>=_) _ _ s
    refine wpAny_bind (wpAny_seqItems hS rfl ?_)
    show wpAny _ A.in1 (tryCatch (pyNext (.ref I)) _>>=_) _ _ s
    refine wpAny_bind (wpAny_tryCatch (W.done s _ _ hst fun h' tk hk'=>?_))
    rcases ho with ⟨rfl,rfl⟩ | ⟨vb,m,rfl,rfl,hP⟩
    · refine wpAny_bind (wpAny_rule (wpAny_pure ?_))
      exact hR dv _ tk (.inl ⟨rfl,rfl⟩) fun b o hb _ e=>hk' b o hb e
    · have hS':=hk' S _ nSw hS
      show wpAny _ A.in1 (updateSeq S (fun _=>#[])>>=_) _ _ _
      refine wpAny_bind (wpAny_updateSeq hS' rfl (wpAny_bind (wpAny_letGo (wpAny_pure ?_))))
      exact hR vb _ tk (.inr ⟨by omega,hP⟩) fun b o hb hbS e=>(Heap.get?_update_other _ _ (Ne.symm hbS)).trans (hk' b o hb e)
  | succ k ih =>
    intro j s old c hk hj hst ho hS hR
    have hlt:j < n:=by omega
    refine codeAny_builtin F.entry_max_loop ?_
    rw [Around.under_plainId F.plain_max_loop _]
    show wpAny _ A.in1 (seqItems? (.ref S)>>=_) _ _ s
    refine wpAny_bind (wpAny_seqItems hS rfl ?_)
    show wpAny _ A.in1 (tryCatch (pyNext (.ref I)) _>>=_) _ _ s
    refine wpAny_bind (wpAny_tryCatch (W.item j s _ _ hlt hst fun v h' tk hP hst' hk'=>?_))
    have hS':=hk' S _ nSw hS
    rcases ho with ⟨rfl,rfl⟩ | ⟨vb,m,rfl,rfl,hPb⟩
    · show wpAny _ A.in1 (updateSeq S (fun _=>#[v,v])>>=_) _ _ _
      refine wpAny_bind (wpAny_updateSeq hS' rfl ?_)
      rw [nm]
      refine wpAny_pure ⟨plainId_quiet F.plain_max_loop _,ih 1 _ [v,v] _ (by omega) (by omega) (W.frame _ _ _ hst' fun b hb o e=>?_) (.inr ⟨v,0,rfl,rfl,hP⟩) (Heap.get?_update_self _ hS' rfl) fun v' h'' tk'' hP' hk''=>?_⟩
      · exact (Heap.get?_update_other _ _ (fun z:S=b=>hSf (z ▸ hb))).trans e
      · exact hR v' h'' tk'' hP' fun b o hb hbS e=>hk'' b o hb hbS ((Heap.get?_update_other _ _ (Ne.symm hbS)).trans (hk' b o hb e))
    · show wpAny _ A.in1 (tryCatch (holding [v,v] (richCompare .Gt v vb>>=_)) _>>=_) _ _ _
      refine wpAny_bind (wpAny_tryCatch (wpAny_holding (wpAny_bind (hcmp (m+1) (argBest bt m) v vb _ _ _ hP hPb ?_))))
      refine wpAny_bind (wpAny_holding (wpAny_truthy_bool (wpAny_bind (wpAny_letGo (wpAny_pure ?_)))))
      cases hb:bt (m+1) (argBest bt m) with
      | true =>
        simp only [if_true]
        refine wpAny_bind (wpAny_updateSeq hS' rfl (wpAny_bind (wpAny_letGo ?_)))
        rw [nm]
        refine wpAny_pure ⟨plainId_quiet F.plain_max_loop _,ih (m+2) _ [v,v] _ (by omega) (by omega) (W.frame _ _ _ hst' fun b hb o e=>?_) (.inr ⟨v,m+1,rfl,rfl,by simp only [argBest,hb,if_true]; exact hP⟩) (Heap.get?_update_self _ hS' rfl) fun v' h'' tk'' hP' hk''=>?_⟩
        · exact (Heap.get?_update_other _ _ (fun z:S=b=>hSf (z ▸ hb))).trans e
        · exact hR v' h'' tk'' hP' fun b o hb hbS e=>hk'' b o hb hbS ((Heap.get?_update_other _ _ (Ne.symm hbS)).trans (hk' b o hb e))
      | false =>
        simp only [Bool.false_eq_true,if_false]
        refine wpAny_bind (wpAny_letGo ?_)
        rw [nm]
        refine wpAny_pure ⟨plainId_quiet F.plain_max_loop _,ih (m+2) _ [vb,vb] c (by omega) (by omega) hst' (.inr ⟨vb,m+1,rfl,rfl,by simp only [argBest,hb,Bool.false_eq_true,if_false]; exact hPb⟩) hS' fun v' h'' tk'' hP' hk''=>?_⟩
        exact hR v' h'' tk'' hP' fun b o hb hbS e=>hk'' b o hb hbS (hk' b o hb e)
end
theorem Hr (a d:Value):argsOk "max" ⟨[a],[("default",d)]⟩:=by unfold argsOk; kernel_rfl
section
variable {prog:Program} {w:World} {A:Around} {E:Value→Shared→Prop} {s:Shared} {l:Addr} {xs:Array (Int×Tok)}
theorem Gj {Q:Value→Shared→Prop} {dv:Value} (hh:A.handled=none) (hl:s.heap.IsList l (intItems xs))
    (h:∀ v h' tk,((xs.size=0∧v=dv)∨(0 < xs.size∧(intItems xs)[argBest (fun i j=>decide (numAt xs i > numAt xs j)) (xs.size - 1)]?=some v))→(∀ b o,s.heap.get? b=some o→h'.get? b=some o)→Q v { s with heap:=h',toks:=tk }) :
    wpAny (model prog w) A (call (.builtin "max") [.ref l] [("default",dv)]) Q E s:=by
  have nm:(toString "max"++toString ".loop" : String) = "max.loop":=by decide
  refine wpAny_call (codeAny_call_builtin F.plain_max F.entry_max ?_)
  have fin:wpAny (model prog w) A.in1 (Builtin.«max» ⟨[.ref l],[("default",dv)]⟩) (fun fin s'=>match fin with
      | .done f=>(match (Except.ok f:Result) with | .ok (.ret v)=>Q v s' | .ok _=>False | .error e=>E e s')
      | .again c'=>c'.quiet=true∧codeAny (model prog w) A c' (fun r s'=>match r with | .ok (.ret v)=>Q v s' | .ok _=>False | .error e=>E e s') s') E s:=by
    show wpAny _ A.in1 (Builtin.Builtins.bindParams "max" ["key","default"] 0 ⟨[],[("default",dv)]⟩>>=_) _ _ s
    refine wpAny_bind (wpAny_of_eq (show Builtin.Builtins.bindParams "max" ["key","default"] 0 ⟨[],[("default",dv)]⟩=pure [none,some dv] from rfl) ?_)
    refine wpAny_bind (wpAny_pure (wpAny_bind (iter_intList hl fun s2 e st hfp hlI=>?_)))
    subst e
    refine wpAny_bind (wpAny_newObj_type ?_)
    rw [nm]
    have W:=Walks.list (prog:=prog) (w:=w) (A:=A.in1) hh s.heap.objs.size l hlI (intItems xs)
    refine wpAny_pure ⟨plainId_quiet F.plain_max_loop _,Gi W (fun i j=>decide (numAt xs i > numAt xs j)) (CmpOf.ints_gt (numAt xs) fun _ _=>intItems_at) _ (fun hm=>Nat.lt_irrefl _ (hfp _ hm)) "default" dv _ 0 _ [] 0 rfl (Nat.zero_le _)
      (W.frame _ _ _ st fun b _ o e=>Heap.get?_push_of_some _ e) (.inl ⟨rfl,rfl⟩) (Heap.get?_push_size _ rfl) fun v h' tk hP hk=>?_⟩
    refine h v h' tk (by simpa [intItems] using hP) (old_kept fun b o hb e=>hk b o hb (Nat.ne_of_lt (Heap.lt_size e)) (Heap.get?_push_of_some _ e))
  simp only [checkBuiltinCall,F.kind_max]
  cases hsig:Manifest.signature? "max" with
  | none=>exact wpAny_pure fin
  | some sig =>
    have ha':Bind.checkArgs "max" sig ⟨[.ref l],[("default",dv)]⟩=pure ():=by simpa only [argsOk,hsig] using Hr (.ref l) dv
    simp only [ha']
    exact wpAny_pure fin
end
end XL
namespace XL
open PySem PySem.Spec PyProof.Rows L2
def RQ (K:PySem.W.Frag) (ta tk:TA):TE:=fun σ H Q=>ta σ H fun vs H1=>tk σ H1 fun zs H2=>∃ (a:Addr) (ns:List Int) (d:Int),vs=[.ref a]∧zs=[.int d]∧bG K H2 a (ns.map V.int)∧∀ m,((ns=[]∧m=d)∨(m∈ns∧∀ y∈ns,y≤m))→Q (.int m) H2
theorem MF {X:Cx} {e dx:Expr} {ta tk:TA} {p kp pos:Pos} (calm:X.calm=true) (hg:Gl X "max") (hm:X.mg "max"=none) (ha:PA X [e] ta) (hk:PK X [⟨some "default",dx,kp⟩] tk) (hst:starEach [e] X.env=[(false,eval e X.env)]:=by rfl) :
    PE X (.Call (.Name "max" p) [e] [⟨some "default",dx,kp⟩] pos) (RQ X.K ta tk):=by
  intro pins s σ H Q I h
  refine wpAny_Call_Name_kw (qb I hg hm (u:=.builtin "max") (by decide +kernel) ?_ (by decide) (by decide))
  refine PyProof.Rows.callWith_kw ?_ (by rw [hst]; rfl) (by rw [hst]; rfl)
  refine cP (ha pos pins s σ H _ I h) fun us s1 ⟨vs,H1,I1,r1,q1⟩=>?_
  refine cP (hk pos pins s1 σ H1 _ I1 q1) fun ws s2 ⟨zs,H2,I2,r2,a,ns,d,e1,e2,hs,q2⟩=>?_
  subst e1 e2
  obtain rfl:=Vals.R4 r1
  obtain ⟨wd,rfl,td,rfl⟩:∃ wd,ws=[wd]∧∃ t,wd=Value.int d t:=by
    obtain ⟨u,e,r⟩:=Vals.one r2
    exact ⟨u,e,r⟩
  show wpAny _ _ (call (.builtin "max") [.ref a] [("default",Value.int d td)]) _ _ _
  obtain ⟨its,rv,hl,hz⟩:=I2.list hs
  have hi:=Vals.ints rv
  obtain ⟨xs,e⟩:=hi.allInts.items
  have hn:numsOf (intItems xs).toList=ns:=by rw [← e]; exact hi.numsOf
  rw [nums_intItems] at hn
  have hlen:xs.size=ns.length:=by rw [← hn,List.length_map,Array.length_toList]
  have hll:s2.heap.IsList a (intItems xs):=by rw [← e]; exact hl.isList
  refine Gj (I2.ok.hd calm) hll fun v h' tk hv kp'=>?_
  have fin:∀ m t,((ns=[]∧m=d)∨(m∈ns∧∀ y∈ns,y≤m))→EP X pins σ Q (.int m t) { s2 with heap:=h',toks:=tk }:=fun m t hm=>⟨.int m,H2,I2.kept (t':=tk) kp',⟨t,rfl⟩,q2 m hm⟩
  rcases hv with ⟨h0,rfl⟩ | ⟨h0,hv⟩
  · exact fin d td (.inl ⟨List.length_eq_zero_iff.mp (hlen.symm.trans h0),rfl⟩)
  · obtain ⟨t,rfl⟩:=intItems_at hv
    obtain ⟨h1,h2⟩:=argBest_gt (numAt xs) (xs.size - 1)
    refine fin _ t (.inr ⟨?_,fun y hy=>?_⟩)
    · rw [numAt_eq,← hn]
      exact PySem.getD_mem (by rw [List.length_map,Array.length_toList]; omega)
    · rw [← hn] at hy
      obtain ⟨j,hj,rfl⟩:=mem_getD hy
      rw [List.length_map,Array.length_toList] at hj
      rw [← numAt_eq]
      exact h2 j (by omega)
end XL
end
section
set_option Elab.async false
set_option maxRecDepth 100000
set_option maxHeartbeats 4000000
set_option linter.all false
namespace XL
open PySem PySem.Spec PyProof.Rows L2
theorem N_ {K:PySem.W.Frag} {a b:Addr} {xs ys:List V} {g:TG} {tb:TS} {D:Ends} {σ:L2.St} {H:Hp} (hlen:xs.length=ys.length) (Pv:Nat→L2.St→Hp→Prop) (h0:Pv 0 σ H) (hl:∀ i σ H,i≤xs.length→Pv i σ H→bG K H a xs∧bG K H b ys)
    (hs:∀ i x y σ H T,xs[i]?=some x→ys[i]?=some y→Pv i σ H→H T=none→g (.ref T) σ (L2.upd H T (.tup [x,y])) fun σ2 H2=>tb { D with nx:=Pv (i+1),ct:=Pv (i+1),bk:=D.nx } σ2 H2) (hd:∀ σ H,Pv xs.length σ H→D.nx σ H) :
    ∃ W:Nat→Nat→L2.St→Hp→Prop,(∃ m,W 0 m σ H)∧∀ i m σ H,W i m σ H →
      ((S9 K a b).stop i H∧D.nx σ H)∨((S9 K a b).go i H∧∃ N:L2.St→Hp→Prop,(∀ σ' H',N σ' H'→∃ m',m' < m∧W (i+1) m' σ' H')∧∀ x H',(S9 K a b).yld i H x H'→g x σ H' fun σ2 H2=>tb { D with nx:=N,ct:=N,bk:=D.nx } σ2 H2):=by
  refine ⟨fun i m σ H=>m=xs.length - i∧i≤xs.length∧Pv i σ H,⟨xs.length,by simp,Nat.zero_le _,h0⟩,?_⟩
  rintro i m σ H ⟨rfl,hi,p⟩
  obtain ⟨q1,q2⟩:=hl i σ H hi p
  by_cases hlt:i < xs.length
  · refine .inr ⟨⟨xs,ys,xs[i],ys[i],q1,q2,by simp [hlt],by simp [hlen ▸ hlt]⟩,Pv (i+1),fun σ' H' p'=>⟨xs.length - (i+1),by omega,rfl,hlt,p'⟩,fun x H' y=>?_⟩
    obtain ⟨T,z1,z2,rfl,hT,rfl,hz1,hz2⟩:=y
    exact hs i z1 z2 σ H T (hz1 xs q1) (hz2 ys q2) p hT
  · have e:i=xs.length:=by omega
    subst e
    exact .inl ⟨⟨xs,ys,q1,q2,.inl (Nat.le_refl _)⟩,hd σ H p⟩
theorem pY (S it:Addr) (old:Array Value) (c0:Nat) (dd:Option Addr) (sl:Array (Option Value)) (items:Array Value) (n:Nat) (hlong:¬(!old.isEmpty && Builtin.List.listTooLong (old.size+items.size))=true) (h1:old.size≤sizeLine) (h2:old.size+items.size≤sizeLine+1) :
    Meets (Builtin.«list.extend» ⟨[.ref S,.ref it],[]⟩) (fun _ R s=>s.heap.get? S=some { cls:=.type "list",dict:=none,data:=.seq old c0,slots:=#[] }∧s.heap.get? it=some { cls:=.type "tuple",dict:=dd,data:=.seq items n,slots:=sl }∧R (.ok (.ret Value.none)) { s with heap:=s.heap.update S (Obj.mapSeq fun x=>x++items),toks:=s.toks }) :=
  .of_wp fun prog w A R s h=>by
    obtain ⟨hp,g,d,tk,os⟩:=s; obtain ⟨hl,hb,h⟩:=h; have f1:=AutoSeq1.idx_int; have f2:=AutoSeq1.sub_tuple_tuple; have f3:=AutoSeq1.sub_list_list; have f4:=AutoSeq1.sub_tuple_list; have f5:=AutoSeq1.sub_list_tuple
    have hz':(old++items).size≤sizeLine+1:=by rw [Array.size_append]; exact h2
    wp_walk using (wpAny_updateSeq hl rfl (hz:=h1) (_hz':=hz')),AutoSeq1.wpAny_loadPart' hl,AutoSeq1.wpAny_loadPart' hb; exact ⟨_,rfl,h⟩
def Jr (K:PySem.W.Frag):V→List V→Hp→VK→Prop:=fun x vs H Q=>∃ l b xs zs,x=.ref l∧vs=[.ref b]∧H l=some (.lst xs)∧dY K H b zs∧xs.length+zs.length≤sizeLine∧Q .non (L2.upd H l (.lst (xs++zs)))
theorem Br {X:Cx}:S7 X "list.extend" (Jr X.K):=by
  intro pins s σ H x vs v us Q I rx rv h
  obtain ⟨l,b,xs,zs,rfl,rfl,hH,hB,hz,q⟩:=h
  cases rx
  obtain ⟨u,rfl,ru⟩:=rv.one
  cases ru
  obtain ⟨z,its,n,r,hl,e⟩:=I.zg hH
  obtain ⟨its2,r2,⟨o,ho,hc,n2,hd⟩,hz2⟩:=I.tuple hB
  obtain ⟨oc,od,odt,osl⟩:=o
  have hc:oc=.type "tuple":=hc
  have hd:odt=.seq its2.toArray n2:=hd
  subst hc hd
  have hl2:=r2.length
  have hsz:its.toArray.size+its2.toArray.size≤sizeLine:=by rw [List.size_toArray,List.size_toArray]; omega
  have hlong:¬ (!its.toArray.isEmpty && Builtin.List.listTooLong (its.toArray.size+its2.toArray.size))=true:=by
    rw [yX hsz,Bool.and_false]
    exact Bool.false_ne_true
  refine call_meets F.slot_list_extend ⟨_,e,rfl⟩ F.entry_list_extend (F.args_list_extend_2 _ _)
    (pY l b its.toArray n od osl its2.toArray n2 hlong (by rw [List.size_toArray]; omega) (by omega)) ⟨e,ho,?_⟩
  refine ⟨.non,_,I.J2 (its':=its++its2) hH e (by simp) (r.append r2) ?_,rfl,q⟩
  rw [List.length_append]
  omega
end XL
end
section
set_option Elab.async false
set_option maxRecDepth 100000
set_option maxHeartbeats 2000000
namespace XL
open PySem PySem.Spec PyProof.Rows L2
def O3 (h:Heap) (e:Addr) (c:Value) (dd:Option Addr) (tb:Value):Prop :=
  ∃ oe vs,h.get? e=some oe∧oe.cls=c∧oe.dict=dd∧oe.data=.fields vs∧vs[1]?=some tb
def Ru (h:Heap) (T:Addr) (fl:Value):Prop:=∃ oT ts,h.get? T=some oT∧oT.data=.fields ts∧ts[3]?=some fl
theorem Hd (o:Obj) (f:Array Value→Array Value):(o.mapFields f).dict=o.dict:=by
  obtain ⟨c,d,dt,s⟩:=o
  cases dt <;> rfl
section
variable {M:Model} {A:Around} {E:Value→Shared→Prop} {s:Shared}
structure O2 (base:Heap) (l:List Env) (e:Addr) (c:Value) (dd:Option Addr) (fl:Value) (h h':Heap):Prop where
  st:base.StaysIn h'
  fr:h'.FunFrames base l
  ex:∃ T,O3 h' e c dd (.ref T)∧T≠e∧base.get? T=none∧Ru h' T fl∧h.objs.size≤T
  sl:h.UpToSlots h'
theorem zF {base:Heap} {env:Env} {outer:List Env} {L e:Addr} {c hd:Value} {dd:Option Addr} {tb:Value} {b:Bool} {Q:Unit→Shared→Prop}
    (hfr:A.frames=some (env :: outer)) (hl:s.heap.FunFrames base (env :: outer)) (hf:env.frame=some L) (hx:O3 s.heap e c dd tb) (hkb:base.StaysIn s.heap) (hen:base.get? e=none)
    (h:∀ h',O2 base (env :: outer) e c dd (rawInt L) s.heap h'→Q () { s with heap:=h' }) :
    wpAny M A (do let a ← frameOf env; let pl ← entryPlaceOf L b; let x ← EntryCells.newEntry hd a .none (rawInt L) .none pl; setField (.ref e) 1 x) Q E s:=by
  obtain ⟨oe,vs,he,hc,hdd,hdat,h1⟩:=hx
  have sz1:1 < vs.size:=(Array.getElem?_eq_some_iff.mp h1).1
  have nfr:e∉(env :: outer).filterMap (·.frame):=by
    intro hm
    obtain ⟨_,o,ho,hnf⟩:=hl.mem hm
    rw [he] at ho
    cases ho
    exact hnf vs hdat
  refine wpAny_bind (wpAny_frameOf_fun hfr hl hf fun g1 hs=>?_)
  refine wpAny_bind (wpAny_entryPlaceOf fun pl hpl=>?_)
  unfold EntryCells.newEntry newFields
  refine wpAny_bind (wpAny_newObj_type ?_ (hpl.sizeOk5 _ _ _ _ _))
  have e1:g1.get? e=some oe:=(hs.2.1 e nfr).trans he
  have kb1:base.StaysIn g1:=fun q o hq=>(hs.2.1 q fun hm=>by rw [(hl.mem hm).1] at hq; cases hq).trans (hkb q o hq)
  generalize ht:({ cls:=.type "traceback",dict:=none,data:=.fields ([hd,.ref L,.none,rawInt L,.none]++(if pl.isEmpty then List.replicate 6 Value.none else pl)).toArray }:Obj)=tbo
  have e2:=Heap.get?_push_of_some (h:=g1) tbo e1
  refine wpAny_setField e2 hdat sz1 (h _ ?_)
  have nTe:g1.objs.size≠e:=Nat.ne_of_gt (Heap.lt_size e1)
  have d3:=Obj.data_mapFields hdat (·.setIfInBounds 1 (Value.ref g1.objs.size))
  have e3:=Heap.get?_update_self (Obj.mapFields (·.setIfInBounds 1 (Value.ref g1.objs.size))) e2 (Obj.isFreed_of_fields d3)
  have t3:=(Heap.get?_update_other (g1.push tbo) (Obj.mapFields (·.setIfInBounds 1 (Value.ref g1.objs.size))) (Ne.symm nTe)).trans (Heap.get?_push_size g1 (by rw [← ht]; rfl))
  have keep:∀ q o,q≠e→g1.get? q=some o→((g1.push tbo).update e (Obj.mapFields (·.setIfInBounds 1 (Value.ref g1.objs.size)))).get? q=some o:=fun q o hq hb=>by
    rw [Heap.get?_update_other _ _ (Ne.symm hq)]
    exact Heap.get?_push_of_some _ hb
  have nrec:∀ q o,s.heap.get? q=some o→(∀ ws,o.data≠.fields ws)→q≠e:=fun q o hb hnf z=>by
    rw [z,he] at hb
    cases hb
    exact hnf vs hdat
  refine ⟨fun q o hq=>keep q o (fun z=>by rw [z,hen] at hq; cases hq) (kb1 q o hq),hl.of_keeps fun q o hb hnf=>?_,?_,fun q o hb hnf=>?_⟩
  · obtain ⟨sl,hsl⟩:=hs.2.2 q o hb
    exact ⟨_,keep q _ (nrec q o hb hnf) hsl,rfl⟩
  · refine ⟨g1.objs.size,⟨_,_,e3,(Obj.cls_mapFields _ _).trans hc,(Hd _ _).trans hdd,d3,by simp [sz1]⟩,nTe,kb1.fresh,⟨_,_,t3,by rw [← ht],?_⟩,?_⟩
    · simp
    · exact Nat.le_of_eq hs.1.symm
  · obtain ⟨sl,hsl⟩:=hs.2.2 q o hb
    exact ⟨sl,keep q _ (nrec q o hb hnf) hsl⟩
end
end XL
end
section
set_option Elab.async false
set_option maxRecDepth 100000
set_option maxHeartbeats 2000000
namespace XL
open PySem PySem.Spec PyProof.Rows L2
def Loose (base h:Heap) (e:Addr) (c:Value) (dd:Option Addr):Prop :=
  ∃ tb,O3 h e c dd tb∧(tb=.none∨∃ T,tb=.ref T∧T≠e∧base.get? T=none∧Ru h T .none)
section
variable {M:Model} {A:Around} {E:Value→Shared→Prop} {s:Shared}
theorem Do {base:Heap} {env:Env} {outer:List Env} {L e:Addr} {c:Value} {dd:Option Addr} {Q:Unit→Shared→Prop}
    (hfr:A.frames=some (env :: outer)) (hl:s.heap.FunFrames base (env :: outer)) (hf:env.frame=some L) (hx:Loose base s.heap e c dd) (hkb:base.StaysIn s.heap) (hen:base.get? e=none)
    (h:∀ h',O2 base (env :: outer) e c dd (rawInt L) s.heap h'→Q () { s with heap:=h' }):wpAny M A (noteFrame (.ref e) env) Q E s:=by
  obtain ⟨tb,hx,ht⟩:=hx
  have hx':=hx
  obtain ⟨oe,vs,he,hc,hdd,hdat,h1⟩:=hx
  unfold noteFrame
  simp only [hf]
  refine wpAny_bind (wpAny_field he hdat h1 ?_)
  rcases ht with rfl | ⟨T,rfl,nTe,hT0,oT,ts,hT,hTd,h3⟩
  · rw [if_neg (by decide)]
    exact zF hfr hl hf hx' hkb hen h
  · rw [if_pos (show (Value.ref T != Value.none)=true from by simp)]
    refine wpAny_bind (wpAny_field hT hTd h3 ?_)
    rw [if_neg (show ¬ ((Value.none==rawInt L)=true) from by simp [rawInt])]
    refine wpAny_bind (wpAny_setField hT hTd (Array.getElem?_eq_some_iff.mp h3).1 ?_)
    generalize hg:s.heap.update T (Obj.mapFields (·.setIfInBounds 3 Value.none))=g
    have oth:∀ b,b≠T→g.get? b=s.heap.get? b:=fun b hb=>by rw [← hg]; exact Heap.get?_update_other _ _ (Ne.symm hb)
    have nrec:∀ b o,s.heap.get? b=some o→(∀ ws,o.data≠.fields ws)→b≠T:=fun b o hb hnf z=>by
      rw [z,hT] at hb
      cases hb
      exact hnf ts hTd
    refine zF (s:={ s with heap:=g }) hfr (hl.of_keeps fun b o hb hnf=>⟨o,(oth b (nrec b o hb hnf)).trans hb,rfl⟩) hf ⟨oe,vs,(oth e (Ne.symm nTe)).trans he,hc,hdd,hdat,h1⟩
      (fun b o hb=>(oth b fun z=>by rw [z,hT0] at hb; cases hb).trans (hkb b o hb)) hen fun h' S=>h h' ⟨S.st,S.fr,?_,fun b o hb hnf=>S.sl b o ((oth b (nrec b o hb hnf)).trans hb) hnf⟩
    obtain ⟨T',x1,x2,x3,x4,x5⟩:=S.ex
    refine ⟨T',x1,x2,x3,x4,?_⟩
    have sz:g.objs.size=s.heap.objs.size:=by rw [← hg]; exact Heap.size_after_update _ _ _
    exact Nat.le_trans (Nat.le_of_eq sz.symm) x5
theorem qi {base h0:Heap} {l:List Env} {e:Addr} {c fl:Value} {dd:Option Addr} {Q:Unit→Shared→Prop} (S:O2 base l e c dd fl h0 s.heap)
    (h:∀ h',O2 base l e c dd .none h0 h'→Q () { s with heap:=h' }):wpAny M A (setFlight (.ref e) none) Q E s:=by
  obtain ⟨T,⟨oe,vs,he,hc,hdd,hdat,h1⟩,nTe,hT0,⟨oT,ts,hT,hTd,h3⟩,hn⟩:=S.ex
  have sz3:3 < ts.size:=(Array.getElem?_eq_some_iff.mp h3).1
  unfold setFlight
  refine wpAny_bind (wpAny_field he hdat h1 ?_)
  rw [if_pos (show (Value.ref T != Value.none)=true from by simp)]
  refine wpAny_setField hT hTd sz3 (h _ ?_)
  generalize hg:s.heap.update T (Obj.mapFields (·.setIfInBounds 3 ((none:Option Addr).elim Value.none fun f=>rawInt f)))=g
  have oth:∀ b,b≠T→g.get? b=s.heap.get? b:=fun b hb=>by rw [← hg]; exact Heap.get?_update_other _ _ (Ne.symm hb)
  have nrec:∀ b o,s.heap.get? b=some o→(∀ ws,o.data≠.fields ws)→b≠T:=fun b o hb hnf z=>by
    rw [z,hT] at hb
    cases hb
    exact hnf ts hTd
  have gT:=Heap.get?_update_self (Obj.mapFields (·.setIfInBounds 3 ((none:Option Addr).elim Value.none fun f=>rawInt f))) hT (Obj.isFreed_of_fields (Obj.data_mapFields hTd _))
  rw [hg] at gT
  refine ⟨fun b o hb=>(oth b fun z=>by rw [z,hT0] at hb; cases hb).trans (S.st b o hb),S.fr.of_keeps fun b o hb hnf=>⟨o,(oth b (nrec b o hb hnf)).trans hb,rfl⟩,
    ⟨T,⟨oe,vs,(oth e (Ne.symm nTe)).trans he,hc,hdd,hdat,h1⟩,nTe,hT0,⟨_,_,gT,Obj.data_mapFields hTd _,by simp [sz3]⟩,hn⟩,fun b o hb hnf=>?_⟩
  obtain ⟨sl,hsl⟩:=S.sl b o hb hnf
  exact ⟨sl,(oth b (nrec b _ hsl hnf)).trans hsl⟩
theorem Bw {base:Heap} {env:Env} {outer:List Env} {L e:Addr} {c:Value} {dd:Option Addr} {Q:Unit→Shared→Prop}
    (hfr:A.frames=some (env :: outer)) (hl:s.heap.FunFrames base (env :: outer)) (hf:env.frame=some L) (hx:Loose base s.heap e c dd) (hkb:base.StaysIn s.heap) (hen:base.get? e=none)
    (h:∀ h',O2 base (env :: outer) e c dd .none s.heap h'→Q () { s with heap:=h' }):wpAny M A (leaving env (.ref e)) Q E s:=by
  unfold leaving
  refine wpAny_bind (Do hfr hl hf hx hkb hen fun h' S=>?_)
  exact qi (s:={ s with heap:=h' }) S fun h'' S'=>h h'' S'
end
end XL
end
section
set_option Elab.async false
set_option maxRecDepth 100000
set_option maxHeartbeats 2000000
namespace XL
open PySem PySem.Spec PyProof.Rows L2
def Li (e C d:Addr):HO:=.ext fun h=>∃ oe vs,h.get? e=some oe∧oe.cls=.ref C∧oe.dict=some d∧oe.data=.fields vs
structure Hx (n:Nat) (H:Hp) (h:Heap) (e C d:Addr):Prop where
  ex:H e=some (Li e C d)
  new:n≤e
  tb:∃ tb,O3 h e (.ref C) (some d) tb∧(tb=.none∨∃ T,tb=.ref T∧T≠e∧n≤T∧H T=none∧Ru h T .none)
def bh (P:Program) (w:World):Ef:=fun outer H s E v s'=>∃ e C d H',v=.ref e∧s'.os=s.os∧AllBare s'.gens∧Un (frs outer) [] H H' s.heap s'.heap∧lN P w H' s'.heap∧Hx s.heap.objs.size H' s'.heap e C d∧E (.ref C) (some d) H'
section
variable {P:Program} {w:World} {H:Hp} {h h':Heap} {n:Nat} {e C d:Addr}
theorem Hx.grow (F:Hx n H h e C d) {m:Nat} (hm:m≤n):Hx m H h e C d:=by
  obtain ⟨x,y,tb,z1,z2⟩:=F
  refine ⟨x,Nat.le_trans hm y,tb,z1,?_⟩
  rcases z2 with z | ⟨T,a1,a2,a3,a4⟩
  · exact .inl z
  · exact .inr ⟨T,a1,a2,Nat.le_trans hm a3,a4⟩
theorem Hx.ground (F:Hx n H h e C d) (fs:List Addr) (hfs:∀ b∈fs,H b=none) :
    ∃ as:List Addr,(∀ b∈fs,b∈as)∧e∈as∧(∀ b∈as,b=e∨H b=none)∧(∀ b∈as,b∈fs∨n≤b)∧Loose (PySem.W.hideAll h as) h e (.ref C) (some d)∧(∀ b∈as,b=e∨b∈fs∨∃ o vs,h.get? b=some o∧o.data=.fields vs):=by
  obtain ⟨x,y,tb,z1,z2⟩:=F
  rcases z2 with z | ⟨T,a1,a2,a3,a4,a5⟩
  · refine ⟨e :: fs,fun b hb=>.tail _ hb,.head _,fun b hb=>?_,fun b hb=>?_,⟨tb,z1,.inl z⟩,fun b hb=>?_⟩
    · exact (List.mem_cons.mp hb).elim .inl fun q=>.inr (hfs b q)
    · exact (List.mem_cons.mp hb).elim (fun q=>.inr (q ▸ y)) .inl
    · exact (List.mem_cons.mp hb).elim .inl fun q=>.inr (.inl q)
  · refine ⟨e :: T :: fs,fun b hb=>.tail _ (.tail _ hb),.head _,fun b hb=>?_,fun b hb=>?_,⟨tb,z1,.inr ⟨T,a1,a2,PySem.W.hideAll_none _ (.tail _ (.head _)),a5⟩⟩,fun b hb=>?_⟩
    · rcases List.mem_cons.mp hb with q | q
      · exact .inl q
      · exact .inr ((List.mem_cons.mp q).elim (fun z=>z ▸ a4) (hfs b))
    · rcases List.mem_cons.mp hb with q | q
      · exact .inr (q ▸ y)
      · exact (List.mem_cons.mp q).elim (fun z=>.inr (z ▸ a3)) .inl
    · rcases List.mem_cons.mp hb with q | q
      · exact .inl q
      · refine .inr ((List.mem_cons.mp q).elim (fun z=>.inr ?_) .inl)
        obtain ⟨o,ts,t1,t2,_⟩:=a5
        exact ⟨o,ts,z ▸ t1,t2⟩
theorem rn {as:List Addr} {l:List Env} {fl:Value} (ok:lN P w H h) (hx:H e=some (Li e C d)) (has:∀ b∈as,b=e∨H b=none)
    (S:O2 (PySem.W.hideAll h as) l e (.ref C) (some d) fl h h'):lN P w H h':=by
  intro a u ha
  by_cases hae:a=e
  · subst hae
    rw [hx] at ha
    cases ha
    obtain ⟨T,⟨oe,vs,x1,x2,x3,x4,_⟩,_⟩:=S.ex
    exact ⟨⟨oe,vs,x1,x2,x3,x4⟩,⟨oe,x1⟩,fun h1 h2 ⟨o,ws,y1,y2⟩ k=>⟨o,ws,k _ y1,y2⟩⟩
  · refine (ok a u ha).stay (fun b v hb q=>S.st b v (PySem.W.hideAll_get _ q fun z=>?_)) (fun _ q=>q) fun _ _ q=>q
    rcases has b z with q' | q'
    · rcases hb with hb | hb
      · exact hae (hb.symm.trans q')
      · rw [q',hx] at hb
        cases hb
    · rcases hb with hb | hb
      · rw [hb,ha] at q'
        cases q'
      · rw [hb] at q'
        cases q'
theorem Hx.Cu {as:List Addr} {l:List Env} (F:Hx n H h e C d) (ok:lN P w H h) (hn:n≤h.objs.size) (S:O2 (PySem.W.hideAll h as) l e (.ref C) (some d) .none h h'):Hx n H h' e C d:=by
  refine ⟨F.ex,F.new,?_⟩
  obtain ⟨T,x1,x2,x3,x4,x5⟩:=S.ex
  exact ⟨.ref T,x1,.inr ⟨T,rfl,x2,Nat.le_trans hn x5,ok.fresh x5,x4⟩⟩
end
section
variable {X:Cx} {pins:List (Addr×Obj)} {σ:L2.St} {H:Hp} {s:Shared} {e C d:Addr}
theorem Ab {h':Heap} {as:List Addr} {l:List Env} {fl:Value} {fs:List Addr} {H0:Hp} {h0 h:Heap} (u:Un fs [] H0 H h0 h) (S:O2 (PySem.W.hideAll h as) l e (.ref C) (some d) fl h h')
    (hfr:∀ b∈fs,∀ o vs,h.get? b=some o→o.data≠.fields vs) (has:∀ b o,h0.get? b=some o→b∈as→b∈fs) (hex:∀ b∈fs,∃ o',h'.get? b=some o'):Un fs [] H0 H h0 h' where
  keep:=fun b o q n hb hx=>S.st b o (PySem.W.hideAll_get _ (u.keep b o q n hb hx) fun z=>hb (has b o q z))
  slot:=fun b o q n hb hx=>by
    obtain ⟨sl,e1⟩:=u.slot b o q n hb hx
    obtain ⟨sl2,e2⟩:=S.sl b _ e1 fun vs z=>hfr b hb _ vs e1 z
    exact ⟨sl2,e2⟩
  free:=u.free
  there:=fun b o q hx=>by
    obtain ⟨o',e1⟩:=u.there b o q hx
    by_cases hb:b∈as
    · exact hex b (has b o q hb)
    · exact ⟨o',S.st b o' (PySem.W.hideAll_get _ e1 hb)⟩
  tups:=u.tups
  frzs:=u.frzs
  tbls:=u.tbls
theorem leaves {P:Program} {w:World} {K:PySem.W.Frag} {mg:Str→Option Value} {base:Heap} {N:List Str} {qual:Str} {scope:Scope} {f:Addr} {cd:Value} {A:Around} {outer:List Env} {s0:Shared} {H0:Hp} {E:XK}
    (I:Inv (jm (bh P w) P w K mg base N qual scope f cd A outer s0 H0 E) pins σ H s) (F:Hx s0.heap.objs.size H s.heap e C d) (hE:E (.ref C) (some d) H) :
    (jm (bh P w) P w K mg base N qual scope f cd A outer s0 H0 E).xe (.ref e) s:=by
  have hfr:=I.ok.frames
  have hst:=I.stack
  have sub:=I.ni
  obtain ⟨as,g1,g2,g3,g4,g5,g6⟩:=F.ground (frs (envOfC qual scope s0.heap.objs.size f cd :: outer)) sub
  have hn:s0.heap.objs.size≤s.heap.objs.size:=I.sz
  refine Bw (L:=s0.heap.objs.size) hfr (PySem.W.funFrames_hide hst fun env he b hb=>g1 b (List.mem_filterMap.mpr ⟨env,he,hb⟩)) rfl g5 (fun b o q=>PySem.W.of_hideAll _ q) (PySem.W.hideAll_none _ g2) fun h' S=>?_
  have hL:∀ b∈frs outer,b∈frs (envOfC qual scope s0.heap.objs.size f cd :: outer):=fun b hb=>by
    unfold frs at hb ⊢
    rw [List.filterMap_cons]
    exact List.mem_cons_of_mem _ hb
  refine ⟨e,C,d,H,rfl,I.os,I.bare,?_,rn I.hok F.ex g3 S,F.Cu I.hok hn S,hE⟩
  refine Ab (l:=envOfC qual scope s0.heap.objs.size f cd :: outer) I.base S (fun b hb o vs ho hd=>?_) (fun b o q hb=>?_) fun b hb=>?_
  · obtain ⟨_,o',ho',hd'⟩:=hst.mem (hL b hb)
    rw [ho] at ho'
    cases ho'
    exact hd' vs hd
  · rcases g4 b hb with z | z
    · unfold frs at z
      rw [List.filterMap_cons] at z
      rcases List.mem_cons.mp z with z | z
      · exact absurd (Heap.lt_size q) (by rw [z]; exact Nat.lt_irrefl _)
      · exact z
    · exact absurd (Heap.lt_size q) (Nat.not_lt.mpr z)
  · obtain ⟨_,o',ho',_⟩:=S.fr.mem (hL b hb)
    exact ⟨o',ho'⟩
theorem passes {P:Program} {w:World} {K:PySem.W.Frag} {mg:Str→Option Value} {base:Heap} {N:List Str} {qual:Str} {scope:Scope} {f:Addr} {cd:Value} {A:Around} {outer:List Env} {s0:Shared} {H0:Hp} {E:XK} :
    iM (bh P w) (jm (bh P w) P w K mg base N qual scope f cd A outer s0 H0 E) E:=by
  intro pins σ H s v s' I h
  obtain ⟨e,C,d,H',rfl,os,bare,un,hok,F,hE⟩:=h
  have I':=I.call' (ch:=[]) os un hok bare (fun b z=>absurd z (by simp))
  exact leaves I' (F.grow I.sz) hE
end
end XL
end
section
set_option Elab.async false
set_option maxRecDepth 100000
set_option maxHeartbeats 4000000
namespace XL
open PySem
section
variable {prog:Program} {w:World} {A:Around} {h:Heap} {g:Array GenState} {d:Drawn} {t:Nat} {os:OsState}
variable {nm q:Str} {C N:Addr} {bs bm:List Value} {hdct:Bool} {sn:List Str} {sub:List Value} {ab:Bool} {col:Option Bool} {dd:Option Addr} {k0 k1 k2 k3 k5:Option Value} {B newId initId:String} {bmN:List Value}
theorem Nt {R:Result→Shared→Prop} (F:ExcBaseFacts B newId initId bmN) (hB:bm.contains (.type B)=true) (hA:bm.contains (.type "AttributeError")=false) (hN:bm.contains (.type "NameError")=false)
    (hC:h.get? C=some (excClassObj nm q C N bs bm hdct sn sub ab col dd k0 k1 k2 k3 k5 newId))
    (hq:R (.ok (.ret (.ref (h.objs.size+1)))) ⟨(h.push { cls:=.type "tuple",data:=.seq #[] }).push { cls:=.ref C,data:=.fields #[.ref h.objs.size,.none,.none,.none,.bool false,.none] },g,d,t,os⟩) :
    codeAny (model prog w) A (.builtin newId ⟨[.ref C],[]⟩) R ⟨h,g,d,t,os⟩:=by
  have ends:=F.ends
  have cB:(Value.ref C :: bm).contains (.type B)=true:=by rw [List.contains_cons,hB,Bool.or_true]
  have cA:(Value.ref C :: bm).contains (.type "AttributeError")=false:=by rw [List.contains_cons,hA]; rfl
  have cN:(Value.ref C :: bm).contains (.type "NameError")=false:=by rw [List.contains_cons,hN]; rfl
  refine codeAny_builtinAt F.entry ?_
  unfold Builtin.«BaseException.__new__»
  refine wpAt_bind ?_
  show wpAt _ _ _ (stack>>=_) _ _ _
  refine wpAt_bind (wpAt_stack fun p below=>wpAt_of_wpAny ?_)
  wp_walk
  refine wpAt_of_wpAny ?_
  rw [F.owner]
  repeat (first
    | with_reducible refine wpAny_madeHere_exc F.canon hC ?_
    | with_reducible refine wpAny_loadPart_at hC ?_
    | (with_reducible refine wpAny_isSubtype_exc hC ?_; first | rw [cB] | rw [cA] | rw [cN])
    | wp_step)
  show R _ _
  rw [Heap.size_push]
  exact hq
theorem u9 {E:Value→Shared→Prop} (F:ExcBaseFacts B newId initId bmN) (hB:bm.contains (.type B)=true) (hA:bm.contains (.type "AttributeError")=false) (hN:bm.contains (.type "NameError")=false)
    {fI:Addr} {oI:Obj} {Q:Fin→Shared→Prop}
    (hC:h.get? C=some (excClassObj nm q C N bs bm hdct sn sub ab col dd k0 k1 k2 k3 k5 newId)) (hi:PySem.W.Looks (model prog w) h (typeLookup (.ref C) "__init__") (some (.ref fI))) (hfI:h.get? fI=some oI) (hfc:oI.cls=.type "function")
    (hq:wpAny (model prog w) A (call (.ref fI) [.ref (h.objs.size+1)]) (fun r s'=>r=.none∧Q (.done (.ret (.ref (h.objs.size+1)))) s') E
      ⟨(h.push { cls:=.type "tuple",data:=.seq #[] }).push { cls:=.ref C,data:=.fields #[.ref h.objs.size,.none,.none,.none,.bool false,.none] },g,d,t,os⟩) :
    wpAny (model prog w) A (Builtin.«type.__call__» ⟨[.ref C],[]⟩) Q E ⟨h,g,d,t,os⟩:=by
  repeat (first | with_reducible refine wpAny_loadPart_at hC ?_ | with_reducible refine wpAny_madeBy_exc hC ?_ | wp_step)
  refine codeAny_call_builtin_code (Code.quiet_builtin _ F.quiet) (wpAny_check_new_subU (bmB:=bm) F hB .base hC ?_)
  refine Nt F hB hA hN hC ?_
  show wpAny _ _ _ _ _ _
  generalize hg:((h.push { cls:=.type "tuple",data:=.seq #[] }).push { cls:=.ref C,data:=.fields #[.ref h.objs.size,.none,.none,.none,.bool false,.none] })=g2
  have up:∀ b o,h.get? b=some o→g2.get? b=some o:=fun b o e=>by rw [← hg]; exact Heap.get?_push_of_some _ (Heap.get?_push_of_some _ e)
  have hget:g2.get? (h.objs.size+1)=some { cls:=.ref C,data:=.fields #[.ref h.objs.size,.none,.none,.none,.bool false,.none] }:=by rw [← hg]; heap_get
  have cC:(Value.ref C :: bm).contains (.ref C)=true:=by simp
  have hC2:=up _ _ hC
  rw [hg] at hq
  unfold isInstance
  repeat (first | with_reducible refine wpAny_loadPart_at hget ?_ | (with_reducible refine wpAny_isSubtype_exc hC2 ?_; rw [cC]) | wp_step)
  show wpAny _ _ (typeLookup (.ref C) _) _ _ _
  refine (hi.keeps up).at (wpAny_holding (wpAny_bind ?_))
  unfold bindSpecial
  refine wpAny_bind (wpAny_typeOf (T:="function") ⟨_,up _ _ hfI,hfc⟩ ?_)
  rw [if_pos (by decide)]
  refine wpAny_pure (wpAny_bind (wpAny_mono hq (fun r s' hr=>?_) fun _ _ x=>x))
  obtain ⟨rfl,hQ⟩:=hr
  wp_walk
  exact hQ
theorem K5 {E:Value→Shared→Prop} (F:ExcBaseFacts B newId initId bmN) (hB:bm.contains (.type B)=true) (hA:bm.contains (.type "AttributeError")=false) (hN:bm.contains (.type "NameError")=false)
    {fI:Addr} {oI:Obj} {Q:Value→Shared→Prop}
    (hC:h.get? C=some (excClassObj nm q C N bs bm hdct sn sub ab col dd k0 k1 k2 k3 k5 newId)) (hi:PySem.W.Looks (model prog w) h (typeLookup (.ref C) "__init__") (some (.ref fI))) (hfI:h.get? fI=some oI) (hfc:oI.cls=.type "function")
    (hq:wpAny (model prog w) (A.under (.builtin "type.__call__" ⟨[.ref C],[]⟩)) (call (.ref fI) [.ref (h.objs.size+1)]) (fun r s'=>r=.none∧Q (.ref (h.objs.size+1)) s') E
      ⟨(h.push { cls:=.type "tuple",data:=.seq #[] }).push { cls:=.ref C,data:=.fields #[.ref h.objs.size,.none,.none,.none,.bool false,.none] },g,d,t,os⟩) :
    wpAny (model prog w) A (call (.ref C) []) Q E ⟨h,g,d,t,os⟩:=by
  have f1:=tc_lookup
  have f2:=tc_bind (.ref C)
  have hT:(⟨h,g,d,t,os⟩:Shared).TypeIs (.ref C) "type":=⟨_,hC,rfl⟩
  refine wpAny_call (codeAny_of_tree ?_)
  show wpAny _ _ (callAny (.ref C) _) _ _ _
  repeat (any_goals (first | assumption | with_reducible refine wpAny_loadPart_at hC ?_ | wp_step))
  refine ⟨rfl,?_⟩
  exact codeAny_call_builtin_at (Code.quiet_builtin _ (by decide +kernel)) entry_typeCall (wpAny_check_type_call_sub hC (u9 F hB hA hN hC hi hfI hfc hq))
end
section
variable {M:Model} {A:Around} {E:Value→Shared→Prop} {env:Env}
variable {nm q:Str} {C N:Addr} {bs bm:List Value} {hdct:Bool} {sn:List Str} {sub:List Value} {ab:Bool} {col:Option Bool} {dd:Option Addr} {k0 k1 k2 k3 k5:Option Value} {newId:String}
theorem Fj {s:Shared} {x:Sem Value} {Q:Flow→Shared→Prop} (hbase:bm.contains (.type "BaseException")=true) (hh:A.handled=none)
    (h:wpAny M A x (fun v s1=>∃ e t od osl,v=.ref e∧s1.heap.get? C=some (excClassObj nm q C N bs bm hdct sn sub ab col dd k0 k1 k2 k3 k5 newId) ∧
      s1.heap.get? e=some ⟨.ref C,od,.fields #[.ref t,.none,.none,.none,.bool false,.none],osl⟩∧E (.ref e) s1) E s):wpAny M A (raiseStmt env (some x) none) Q E s:=by
  have cB:(Value.ref C :: bm).contains (.type "BaseException")=true:=by rw [List.contains_cons,hbase,Bool.or_true]
  unfold raiseStmt
  refine wpAny_bind (wpAny_mono h (fun v s1 h1=>?_) fun _ _ z=>z)
  obtain ⟨e,t,od,osl,rfl,hC,he,hE⟩:=h1
  obtain ⟨hp,g,d,tk,os⟩:=s1
  repeat (first
    | with_reducible refine wpAny_loadPart_at he ?_
    | with_reducible refine wpAny_loadPart_at hC ?_
    | (with_reducible refine wpAny_isSubtype_exc hC ?_; rw [cB])
    | wp_step)
  exact wpAny_raiseNew_none hh hE
end
end XL
end
section
set_option Elab.async false
set_option maxRecDepth 100000
set_option maxHeartbeats 4000000
namespace XL
open PySem PySem.W PyProof.Rows Builtin Builtin.ObjectAttr
def lA:List Value→Bool
  | .ref _ :: r=>lA r
  | [.type a,.type b,.type c]=>a == "Exception" && (b == "BaseException" && c == "object")
  | _=>false
theorem j5 (self:Value):∀ {l:List Value},lA l=true→refuseLoop self "__setattr__" l=pure ()
  | .ref _ :: r,h=>by
    rw [refuseLoop_ref]
    exact j5 self (l:=r) h
  | [.type a,.type b,.type c],h=>by
    have q:(a == "Exception")=true∧(b == "BaseException")=true∧(c == "object")=true:=by
      rw [← Bool.and_eq_true,← Bool.and_eq_true]
      exact h
    rw [beq_iff_eq.mp q.1,beq_iff_eq.mp q.2.1,beq_iff_eq.mp q.2.2]
    exact PySem.F.store_Exception.passes self
theorem rC:∀ {l:List Value},lA l=true→l.contains (.type "object")=true
  | .ref _ :: r,h=>by rw [List.contains_cons,rC (l:=r) h,Bool.or_true]
  | [.type a,.type b,.type c],h=>by
    have q:(a == "Exception")=true∧(b == "BaseException")=true∧(c == "object")=true:=by
      rw [← Bool.and_eq_true,← Bool.and_eq_true]
      exact h
    rw [beq_iff_eq.mp q.1,beq_iff_eq.mp q.2.1,beq_iff_eq.mp q.2.2]
    simp
def iy (K:Frag) (C:Addr):Bool:=(clsIn K C).any fun cd=>lA cd.mro
section
variable {prog:Program} {w:World} {A:Around} {s:Shared} {K:Frag} {x C:Addr}
theorem MK {R:Result→Shared→Prop} {ox:Obj} {od:Option Obj} {name:Str} {tk:Tok} {v:Value} (X:K.In s.heap) (I:PySem.W.InstAt s.heap x ox C od) (hp:iy K C=true) (ht:takerIn K C name=some none)
    (h:∀ b,wpAny (model prog w) A.in1 (storeInOwnDict (.ref x) (.ref C) (.str name tk) name v b)
      (fun fin s'=>match fin with | .done f=>R (.ok f) s' | .again c'=>c'.quiet=true∧codeAny (model prog w) A c' R s') (fun e s'=>R (.error e) s') s) :
    codeAny (model prog w) A (.call (.builtin "object.__setattr__") ⟨[.ref x,.str name tk,v],[]⟩) R s:=by
  have SF:=PySem.F.store_object
  obtain ⟨cd,hc,ho⟩:=any_some hp
  have ne:cd.mro.isEmpty=false:=by
    cases q:cd.mro with
    | nil=>rw [q] at ho; cases ho
    | cons _ _=>rfl
  have sub:Looks (model prog w) s.heap (isInstance (.ref x) (.type "object")) true :=
    I.type.andThen (looks_mroIn X (by unfold mroIn; rw [hc,Option.bind_some,if_neg (by rw [ne]; decide),rC ho]))
  refine codeAny_call_builtin SF.slot.plain SF.entry (@check_slot (model prog w) _ _ s "object.__setattr__" "object" "__setattr__" (.ref x) [.str name tk,v] [] _ SF.kind SF.split sub (SF.args (.ref x) (.str name tk) v) ?_)
  obtain ⟨attr,ha,hr⟩:=Option.bind_eq_some_iff.mp ht
  have hm:Looks (model prog w) s.heap (mroOf (.ref C)) cd.mro:=(looks_clsIn X hc).andThen .now
  have L3:Looks (model prog w) s.heap (storeTaker? attr) none:=by
    cases attr with
    | none=>exact .now
    | some a =>
      obtain ⟨b,hb,hb2⟩:=Option.map_eq_some_iff.mp hr
      refine (looks_takesIn X hb).andThen ?_
      cases b with
      | true=>cases hb2
      | false=>exact .now
  rw [osa_eq,refuse_eq]
  refine wpAny_bind (wpAny_bind (I.type.here (wpAny_bind (hm.here ?_))))
  rw [j5 _ ho]
  refine wpAny_pure (wpAny_bind (I.type.here (wpAny_bind ((looks_findIn X ha).here (wpAny_bind (L3.here ?_))))))
  exact h _
theorem Ew {E:Value→Shared→Prop} {ox:Obj} {name:Str} {v:Value} {Q:Unit→Shared→Prop} (X:K.In s.heap) (hx:s.heap.get? x=some ox) (hcl:ox.cls=.ref C) (hdn:ox.dict=none) (hnc:∀ c,ox.data≠.cls c)
    (hs:findIn K (.ref C) "__setattr__"=some (some (.builtin "object.__setattr__"))) (hp:iy K C=true) (ht:takerIn K C name=some none) (hh:hasDictIn K C=true)
    (h:∀ h' tk,(∀ b o,b≠x→s.heap.get? b=some o→h'.get? b=some o)→h'.get? x=some { ox with dict:=some s.heap.objs.size }→h'.Ns1 s.heap.objs.size (fun y=>if y=name then some v else none)→Q () { s with heap:=h',toks:=tk }) :
    wpAny (model prog w) A (setAttr (.ref x) name v) Q E s:=by
  have I:PySem.W.InstAt s.heap x ox C none:=⟨hx,hcl,by
    unfold notCls
    obtain ⟨_,_,dt,_⟩:=ox
    cases dt <;> first | rfl | exact absurd rfl (hnc _),by rw [hdn]; trivial⟩
  refine set_plain X I hs (MK (s:={ s with toks:=s.toks+1 }) X I hp ht fun b=>?_)
  obtain ⟨cd,hc,hd'⟩:=any_some hh
  unfold storeInOwnDict
  refine wpAny_bind (wpAny_pure (wpAny_bind ?_))
  unfold ownDictForStores instanceDict
  refine wpAny_bind (wpAny_loadPart hx ?_)
  rw [hcl]
  refine wpAny_bind (PySem.W.Looks.here (s:={ s with toks:=s.toks+1 }) (PySem.W.looks_clsIn X hc) ?_)
  rw [hd',hdn]
  simp only [Bool.not_true,Bool.false_eq_true,if_false,typeHasDict,Bool.or_self]
  have hxs:x≠s.heap.objs.size:=Nat.ne_of_lt (Heap.lt_size hx)
  have hx1:(s.heap.push { cls:=.type "dict",data:=.dict #[] }).get? x=some ox:=Heap.get?_push_of_some _ hx
  have fin:wpAny (model prog w) A.in1 (do
      let d ← alloc { cls:=.type "dict",data:=.dict #[] }
      update x fun o=>{ o with dict:=some d }
      dictMade (.ref C) x d) (fun r s'=>wpAny (model prog w) A.in1 (match r with | some d=>storeInDict d (.str name s.toks) name v | none=>noDictFor (.ref x) (.ref C) name b)
        (fun fin s'=>match fin with | .done f=>(match (Except.ok f:Result) with | .ok (.ret _)=>Q () s' | .ok _=>False | .error e=>E e s') | .again c'=>c'.quiet=true∧codeAny (model prog w) A c' (fun r s'=>match r with | .ok (.ret _)=>Q () s' | .ok _=>False | .error e=>E e s') s') (fun e s'=>E e s') s') (fun e s'=>E e s') { s with toks:=s.toks+1 }:=by
    refine wpAny_bind (wpAny_alloc' ?_)
    refine wpAny_bind (wpAny_update' hx1 ?_)
    unfold dictMade
    refine wpAny_pure ?_
    generalize hg:((s.heap.push { cls:=.type "dict",data:=.dict #[] }).update x fun o=>{ o with dict:=some s.heap.objs.size })=g
    have gd:g.get? s.heap.objs.size=some { cls:=.type "dict",data:=.dict #[] }:=by
      rw [← hg]
      exact (Heap.get?_update_ne _ _ _ _ hxs.symm).trans (Heap.get?_push_at rfl rfl)
    have gx:g.get? x=some { ox with dict:=some s.heap.objs.size }:=by
      rw [← hg]
      refine Heap.get?_update_self _ hx1 ?_
      have hfr:=(Heap.get?_some_iff.mp hx).2
      obtain ⟨oc,od,odt,osl⟩:=ox
      cases odt <;> first | rfl | exact hfr
    have go:∀ b o,b≠x→s.heap.get? b=some o→g.get? b=some o:=fun b o hb e=>by
      rw [← hg]
      exact (Heap.get?_update_ne _ _ _ _ hb).trans (Heap.get?_push_of_some _ e)
    have hnd:g.Ns s.heap.objs.size (fun _=>none):=⟨_,#[],_,gd,rfl,fun e he=>absurd he (by simp),fun _=>rfl⟩
    show wpAny _ _ (storeInDict s.heap.objs.size (.str name s.toks) name v) _ _ _
    unfold storeInDict newKeyGuard
    refine wpAny_bind (wpAny_pure (wpAny_bind (wpAny_nsSet1 (Heap.Ns1.of_empty hnd) fun h' hn' hsb=>?_)))
    obtain ⟨oD,esD,epD,hoD,hdD,hcD⟩:=hn'.count (Within.cons name v Within.nil)
    refine wpAny_bind (wpAny_lookBehind hoD (by rw [hdD]; exact pastItsLine_dict (Nat.le_trans hcD (by rw [List.length_cons,List.length_nil,sizeLine_eq]; omega))) ?_)
    refine wpAny_pure ?_
    refine h h' _ (fun b o hb e=>?_) ?_ hn'
    · exact (hsb.2 b (Nat.ne_of_lt (Heap.lt_size e))).trans (go b o hb e)
    · exact (hsb.2 x hxs).trans gx
  cases hdt:ox.data with
  | cls c=>exact absurd hdt (hnc c)
  | _=>exact fin
end
end XL
end
section
set_option Elab.async false
set_option maxRecDepth 100000
set_option maxHeartbeats 4000000
namespace XL
open PySem PySem.W PyProof.Rows Builtin Builtin.ObjectAttr
theorem zU:builtinKind "BaseException.__getattribute__"=some .slot:=by decide +kernel
theorem Hl:splitId "BaseException.__getattribute__"=some ("BaseException","__getattribute__"):=by kernel_rfl
theorem Hm:plainId "BaseException.__getattribute__"=true:=by decide +kernel
theorem oU:∀ {l:List Value},lA l=true→l.contains (.type "BaseException")=true
  | .ref _ :: r,h=>by rw [List.contains_cons,oU (l:=r) h,Bool.or_true]
  | [.type a,.type b,.type c],h=>by
    have q:(a == "Exception")=true∧(b == "BaseException")=true∧(c == "object")=true:=by
      rw [← Bool.and_eq_true,← Bool.and_eq_true]
      exact h
    rw [beq_iff_eq.mp q.1,beq_iff_eq.mp q.2.1,beq_iff_eq.mp q.2.2]
    simp
theorem N8 (o:Value):bindSpecial (.builtin "BaseException.__getattribute__") o=pure (.builtin "BaseException.__getattribute__",[o]):=by
  have hop:withoutEnding? "BaseException.__getattribute__" "#opaque"=none:=by decide +kernel
  have hdat:withoutEnding? "BaseException.__getattribute__" "#data"=none:=by decide +kernel
  simp only [bindSpecial,typeOf,builtinType,hop,hdat,zU]
  rfl
section
variable {prog:Program} {w:World} {A:Around} {s:Shared} {K:Frag} {x C:Addr}
theorem N7 {E:Value→Shared→Prop} {ox:Obj} {od:Option Obj} {name:Str} {v:Value} {expr:Bool} {Q:Value→Shared→Prop} (X:K.In s.heap) (I:PySem.W.InstAt s.heap x ox C od) (hp:iy K C=true)
    (hg:findIn K (.ref C) "__getattribute__"=some (some (.builtin "BaseException.__getattribute__"))) (hk:findIn K (.ref C) "__getattr__"=some none)
    (hv:findObj K C od name=some (.value v)) (hh:handedIn v=true) (h:Q v { s with toks:=s.toks+1 }):wpAny (model prog w) A (getAttr (.ref x) name expr) Q E s:=by
  obtain ⟨cd,hc,ho⟩:=any_some hp
  have ne:cd.mro.isEmpty=false:=by
    cases q:cd.mro with
    | nil=>rw [q] at ho; cases ho
    | cons _ _=>rfl
  have sub:Looks (model prog w) s.heap (isInstance (.ref x) (.type "BaseException")) true :=
    I.type.andThen (looks_mroIn X (by unfold mroIn; rw [hc,Option.bind_some,if_neg (by rw [ne]; decide),oU ho]))
  have oth:(onTheHeap (.ref C) && (Value.builtin "BaseException.__getattribute__"==Value.builtin "object.__getattribute__"))=false:=by
    have z:(Value.builtin "BaseException.__getattribute__"==Value.builtin "object.__getattribute__")=false:=by decide +kernel
    rw [z,Bool.and_false]
  unfold getAttr
  refine wpAny_bind (wpAny_mkText ?_)
  unfold getAttrBy
  refine wpAny_holding (wpAny_bind (PySem.W.Looks.here (s:={ s with toks:=s.toks+1 }) I.type (wpAny_bind (PySem.W.Looks.here (s:={ s with toks:=s.toks+1 }) (looks_findIn X hg) ?_))))
  dsimp only
  rw [oth,if_neg (by decide)]
  unfold getAttrByItsOwn hookBefore
  rw [if_pos (by rfl)]
  refine wpAny_bind (PySem.W.Looks.here (s:={ s with toks:=s.toks+1 }) (looks_findIn X hk) ?_)
  have hx0:(expr && onTheHeap (Value.builtin "BaseException.__getattribute__"))=false:=by cases expr <;> rfl
  have run:wpAny (model prog w) A (callGetattribute (.ref x) (.str name s.toks) (.builtin "BaseException.__getattribute__") expr) (fun u s'=>u=v∧s'={ s with toks:=s.toks+1 }) (fun _ _=>False) { s with toks:=s.toks+1 }:=by
    unfold callGetattribute
    rw [hx0,if_neg (by decide)]
    unfold boundAndCalled
    rw [N8]
    refine wpAny_bind (wpAny_pure (wpAny_call ?_))
    refine codeAny_call_builtin Hm PySem.F.entry_bexc_ga (@check_slot (model prog w) _ _ _ "BaseException.__getattribute__" "BaseException" "__getattribute__" (.ref x) [.str name s.toks] [] _ zU Hl sub (PySem.F.args_bexc_ga _ _) ?_)
    unfold Builtin.«object.__getattribute__»
    refine wpAny_bind (wpAny_pure (wpAny_bind (wpAny_pure ?_)))
    refine wpAny_bind (PySem.W.Looks.here (s:={ s with toks:=s.toks+1 }) I.type (wpAny_bind (PySem.W.Looks.here (s:={ s with toks:=s.toks+1 }) (looks_find X I hv) ?_)))
    exact wpAny_pure ⟨rfl,rfl⟩
  refine wpAny_bind (wpAny_attempt (wpAny_holding (wpAny_mono run (fun u s' hu=>?_) fun _ _ z=>False.elim z)))
  obtain ⟨rfl,rfl⟩:=hu
  show wpAny _ _ (handedOut u) _ _ _
  rw [handedOut_of hh]
  exact wpAny_pure h
end
end XL
end
section
set_option Elab.async false
set_option maxRecDepth 100000
set_option maxHeartbeats 4000000
namespace XL
open PySem PySem.Spec PyProof.Rows L2
def ym (x C:Addr) (dd:Option Addr):HO:=.ext fun h=>∃ (oe:Obj) (t:Addr),h.get? x=some oe∧oe.cls=.ref C∧oe.dict=dd∧oe.data=.fields #[.ref t,.none,.none,.none,.bool false,.none]
theorem HB:plainId "Exception.__init__"=true:=by decide +kernel
theorem HD {M:Model} {A:Around} {E:Value→Shared→Prop} {h:Heap} {g:Array GenState} {d:Drawn} {tk:Nat} {os:OsState} {x C:Addr} {od od2:Option Addr} {odt:Data} {osl osl2:Array (Option Value)} {c2:Value} {cd:ClassData} {Q:Unit→Shared→Prop}
    (sub:PySem.W.Looks M h (isInstance (.ref x) (.type "Exception")) true) (hx:h.get? x=some ⟨.ref C,od,odt,osl⟩) (hC:h.get? C=some ⟨c2,od2,.cls cd,osl2⟩) (hq:Q () ⟨h,g,d,tk,os⟩) :
    wpAny M A (checkBuiltinCall "Exception.__init__" ⟨[.ref x],[]⟩) Q E ⟨h,g,d,tk,os⟩:=by
  have F:=PySem.F.excCall_Exception
  have ns:=F.noStar
  simp only [checkBuiltinCall,F.initKind,F.initSplit,F.initRow]
  refine wpAny_bind (PySem.W.Looks.here (s:=⟨h,g,d,tk,os⟩) sub ?_)
  simp only [Bool.not_true,Bool.false_eq_true,if_false]
  repeat (first | with_reducible refine wpAny_loadPart_at hx ?_ | with_reducible refine wpAny_loadPart_at hC ?_ | wp_step)
  exact hq
theorem rD:∀ {l:List Value},lA l=true→l.contains (.type "Exception")=true
  | .ref _ :: r,h=>by rw [List.contains_cons,rD (l:=r) h,Bool.or_true]
  | [.type a,.type b,.type c],h=>by
    have q:(a == "Exception")=true∧(b == "BaseException")=true∧(c == "object")=true:=by
      rw [← Bool.and_eq_true,← Bool.and_eq_true]
      exact h
    rw [beq_iff_eq.mp q.1,beq_iff_eq.mp q.2.1,beq_iff_eq.mp q.2.2]
    simp
section
variable {X:Cx}
theorem Oh:lY X (.builtin "Exception.__init__") (fun xs H Q=>∃ x C dd,xs=[.ref x]∧H x=some (ym x C dd)∧iy X.K C=true∧Q .non H):=by
  intro pins s σ H xs us Q I r h
  obtain ⟨x,C,dd,rfl,hx,hp,q⟩:=h
  obtain rfl:=Vals.R4 r
  obtain ⟨⟨oe,t,h1,h2,h3,h4⟩,_,_⟩:=(show cX X.prog X.w H s.heap x (ym x C dd) from I.hok x _ hx)
  obtain ⟨cd,hc,ho⟩:=PySem.W.any_some hp
  have ne:cd.mro.isEmpty=false:=by
    cases q:cd.mro with
    | nil=>rw [q] at ho; cases ho
    | cons _ _=>rfl
  have ty:PySem.W.Looks (model X.prog X.w) s.heap (typeOf (.ref x)) (.ref C):=h2 ▸ (PySem.W.Looks.ld h1).andThen .now
  have sub:PySem.W.Looks (model X.prog X.w) s.heap (isInstance (.ref x) (.type "Exception")) true :=
    ty.andThen (PySem.W.looks_mroIn I.mD (by unfold PySem.W.mroIn; rw [hc,Option.bind_some,if_neg (by rw [ne]; decide),rD ho]))
  obtain ⟨c2,od2,osl2,hCo⟩:∃ c2 od2 osl2,s.heap.get? C=some ⟨c2,od2,.cls cd,osl2⟩:=by
    unfold PySem.W.clsIn at hc
    split at hc
    · rename_i q
      cases hc
      exact ⟨_,_,_,I.mD _ _ q⟩
    · cases hc
  obtain ⟨oc,od,odt,osl⟩:=oe
  dsimp only at h2 h3 h4
  subst h2 h3 h4
  refine wpAny_call (codeAny_call_builtin HB PySem.F.excCall_Exception.initEntry (HD (g:=s.gens) (d:=s.drawn) (tk:=s.toks) (os:=s.os) sub h1 hCo ?_))
  have sz:0 < (#[Value.ref t,Value.none,.none,.none,.bool false,.none]:Array Value).size:=by simp
  have h1':(s.heap.push { cls:=.type "tuple",data:=.seq #[] }).get? x=some _:=Heap.get?_push_of_some _ h1
  have hupd:=Heap.get?_update_self (Obj.mapFields (·.setIfInBounds 0 (Value.ref s.heap.objs.size))) h1' (Obj.isFreed_of_fields (Obj.data_mapFields rfl _))
  have fin:∀ h':Heap,h'=(s.heap.push { cls:=.type "tuple",data:=.seq #[] }).update x (Obj.mapFields (·.setIfInBounds 0 (Value.ref s.heap.objs.size)))→EP X pins σ Q .none { s with heap:=h' }:=fun h' e=>by
    refine ⟨.non,H,?_,rfl,q⟩
    have kp:∀ b u,b≠x→s.heap.get? b=some u→h'.get? b=some u:=fun b u hb z=>by
      rw [e,Heap.get?_update_other _ _ (Ne.symm hb)]
      exact Heap.get?_push_of_some _ z
    have hx':h'.get? x=some ⟨.ref C,od,.fields #[.ref s.heap.objs.size,.none,.none,.none,.bool false,.none],osl⟩:=by rw [e]; exact hupd
    have w1:=I.write (x:=x) (e:=x) (o:=ym x C od) (t':=s.toks) (h':=h') (by rw [hx]; exact True.intro) (.inl rfl) kp ⟨_,hx'⟩
      ⟨⟨_,s.heap.objs.size,hx',rfl,rfl,rfl⟩,⟨_,hx'⟩,fun g1 g2 ⟨o,t,y1,y2⟩ k=>⟨o,t,k _ y1,y2⟩⟩
    have same:upd H x (ym x C od)=H:=by
      funext b
      unfold upd
      by_cases z:b=x
      · rw [if_pos z,z,hx]
      · rw [if_neg z]
    rw [same] at w1
    exact w1
  unfold Builtin.«BaseException.__init__»
  wp_walk
  exact fin _ rfl
def R3 (K:PySem.W.Frag) (ta tv:TE) (f:Str):TS:=fun D σ H=>tv σ H fun y H1=>ta σ H1 fun v H2=>∃ x C,v=.ref x∧H2 x=some (ym x C none)∧iy K C=true ∧
  PySem.W.findIn K (.ref C) "__setattr__"=some (some (.builtin "object.__setattr__"))∧PySem.W.takerIn K C f=some none∧PySem.W.hasDictIn K C=true ∧
  ∀ d,H2 d=none→d≠x→D.nx σ (upd (upd H2 d (.xd [(f,y)])) x (ym x C (some d)))
theorem Mv {o value:Expr} {f:Str} {pos pos':Pos} {ta tv:TE} (ha:PE X o ta) (hv:PE X value tv) (hs:swapsWith value (some (.Attribute o f pos')) pos.line X.env=pure false) :
    PS X (.Assign [.Attribute o f pos'] value pos) (R3 X.K ta tv f):=by
  intro pins s σ H D I h
  refine plainObj_wpAny_Assign_Attribute (cP (hv pins s σ H _ I h) fun u s1 ⟨y,H1,I1,ry,q⟩=>cP (ha pins s1 σ H1 _ I1 q) fun ov s2 ⟨v,H2,I2,rx,x,C,ex,hx,hp,hsa,ht,hh,q2⟩=>?_) hs
  subst ex
  obtain rfl:ov=Value.ref x:=rx
  obtain ⟨⟨oe,t,h1,h2,h3,h4⟩,_,_⟩:=(show cX X.prog X.w H2 s2.heap x (ym x C none) from I2.hok x _ hx)
  refine Ew I2.mD h1 h2 h3 (fun c z=>by rw [h4] at z; cases z) hsa hp ht hh fun h' tk kp hx' hns=>?_
  have hsz:H2 s2.heap.objs.size=none:=I2.hok.fresh (Nat.le_refl _)
  have ndx:s2.heap.objs.size≠x:=Nat.ne_of_gt (Heap.lt_size h1)
  refine ⟨σ,_,?_,q2 s2.heap.objs.size hsz ndx⟩
  have unt:∀ b,H2 b=none→b≠x:=fun b e z=>by rw [z,hx] at e; cases e
  refine I2.un (h':=h') (t':=tk) ⟨fun b o e n _ _=>kp b o (unt b n) e,fun b o e n _ _=>⟨o.slots,kp b o (unt b n) e⟩,fun b o e n _=>?_,fun b o e _=>?_,fun b xs e=>?_,fun b o u e=>?_,fun b ps e=>⟨#[],?_⟩⟩ ?_
  · rw [au (unt b n),au (Nat.ne_of_lt (Heap.lt_size e))]
    exact n
  · by_cases z:b=x
    · exact ⟨_,z ▸ hx'⟩
    · exact ⟨o,kp b o z e⟩
  · rw [au (qU e hx (by intro z; cases z)),au (aB e hsz)]
    exact e
  · rw [au (qU e hx (by intro z; cases z)),au (aB e hsz)]
    exact e
  · rw [au (qU e hx (by intro z; cases z)),au (aB e hsz),e]
    simp
  · intro b u e
    by_cases zx:b=x
    · subst zx
      rw [ak] at e
      cases e
      exact ⟨⟨_,t,hx',h2,rfl,h4⟩,⟨_,hx'⟩,fun g1 g2 ⟨o,t,y1,y2⟩ k=>⟨o,t,k _ y1,y2⟩⟩
    · rw [au zx] at e
      by_cases zd:b=s2.heap.objs.size
      · subst zd
        rw [ak] at e
        cases e
        refine ⟨_,hns,fun g=>?_⟩
        by_cases zf:g=f
        · subst zf
          rw [if_pos rfl,List.lookup_cons_self]
          exact ry
        · rw [if_neg zf]
          have nb:(g==f)=false:=by
            cases q:(g==f) with
            | false=>rfl
            | true=>exact absurd (eq_of_beq q) zf
          rw [List.lookup_cons,nb]
          exact True.intro
      · rw [au zd] at e
        refine (I2.hok b u e).stay (fun c v hc z=>kp c v (fun zz=>?_) z) (fun c z=>?_) fun c xs z=>?_
        · rcases hc with hc | hc
          · exact zx (hc.symm.trans zz)
          · rw [zz,hx] at hc
            cases hc
        · rw [au (qU z hx (by intro y; cases y)),au (aB z hsz)]
          exact z
        · rw [au (qU z hx (by intro y; cases y)),au (aB z hsz)]
          exact z
end
end XL
end
section
set_option Elab.async false
set_option maxRecDepth 100000
set_option maxHeartbeats 4000000
namespace XL
open PySem PySem.Spec PyProof.Rows L2
structure iC (K:PySem.W.Frag) (C:Addr) (m:Str) (f:Addr):Prop where
  ga:PySem.W.specialIn K (.ref C) "__getattribute__"=some (some (.builtin "type.__getattribute__"))
  rd:PySem.W.readsIn K C (.type "type")=true
  at_:PySem.W.findCls K (.ref C) (.type "type") m=some (.val (.ref f))
  kp:PySem.W.keepIn K (.ref f)=true
theorem PQ (K:PySem.W.Frag):PySem.W.findCls K (.type "Exception") (.type "type") "__init__"=some (.val (.builtin "Exception.__init__")):=by kernel_rfl
section
variable {X:Cx} {CX:Ef} {k:Nat} {f C:Addr} {fd:FuncData} {ps:List Str} {sp:Sp} {dvs:List V} {ds:List Value} {E:XK} {m:Str} {pos apos:Pos} {e o:Expr} {es:List Expr} {ta:TE} {t:TA}
theorem kW {pl:Sem Bool} (he:PE X o (tC (.ref C))) (hm:iC X.K C m f) (F:aL X.prog X.w X.K X.mg X.base CX k f fd ps sp) (hr:bH k X.A) (hb:Binds X.K fd ps ds) (hd:Vals dvs ds) (hx:iM CX X E) (ha:PA X (e :: es) t)
    (hst:starEach (e :: es) X.env=(false,eval e X.env) :: starEach es X.env:=by rfl) (hpl:(backTo pos (starEach es X.env)).any (·.1)=false:=by rfl)
    (ht:eval (.Call (.Attribute o m apos) (e :: es) [] pos) X.env=(do
      let ov ← eval o X.env
      standAt apos.atName
      let (f,first) ← holding [ov] (getMethod ov m pl)
      callWith pos f first (backTo pos (starEach (e :: es) X.env)) (backToKw pos (keywordEach [] X.env))):=by rfl) :
    PE X (.Call (.Attribute o m apos) (e :: es) [] pos) (jL sp dvs E t):=by
  intro pins s σ H Q I h
  refine PySem.W.methodCall_KW (pl:=pl) (cP (he pins s σ H (fun v H1=>v=.ref C∧H1=H) I ⟨rfl,rfl⟩) fun u s1 ⟨v,H1,I1,rx,e1,e2⟩=>?_) ht
  subst e1 e2
  obtain rfl:u=Value.ref C:=rx
  refine PySem.W.method_cls I1.mD hm.ga (PySem.W.cls_value I1.mD hm.rd hm.at_ rfl ?_)
  have I2:=I1.tok (s1.toks+1)
  refine PySem.W.callWith_K (first:=[]) (h₀:=X.base) I.ok.mod.kin hm.kp (cP (ha pos pins _ σ H1 _ I2 h) fun us s2 ⟨vs,H2,I3,r,q2⟩=>⟨I3.mD,?_⟩) hst hpl
  exact w6 F hr hb hd hx I3 r q2
theorem Jy {pl:Sem Bool} {p:Pos} (hg:Gl X "Exception") (hm:X.mg "Exception"=none) (ha:PA X [e] t)
    (hst:starEach [e] X.env=[(false,eval e X.env)]:=by rfl)
    (ht:eval (.Call (.Attribute (.Name "Exception" p) "__init__" apos) [e] [] pos) X.env=(do
      let ov ← eval (.Name "Exception" p) X.env
      standAt apos.atName
      let (f,first) ← holding [ov] (getMethod ov "__init__" pl)
      callWith pos f first (backTo pos (starEach [e] X.env)) (backToKw pos (keywordEach [] X.env))):=by rfl) :
    PE X (.Call (.Attribute (.Name "Exception" p) "__init__" apos) [e] [] pos) (Eo (fun xs H Q=>∃ x C dd,xs=[.ref x]∧H x=some (ym x C dd)∧iy X.K C=true∧Q .non H) t):=by
  intro pins s σ H Q I h
  refine PySem.W.methodCall_KW (pl:=pl) (qb I hg hm (u:=.type "Exception") (by decide +kernel) ?_ (by decide) (by decide)) ht
  obtain ⟨mm,hfr⟩:=I.fr
  refine PySem.W.method_type hfr I.ok.mod.kin (by kernel_rfl) (by decide +kernel) (PQ X.K) (by decide +kernel) ?_
  have I2:=I.tok (s.toks+1)
  exact PyProof.Rows.callWith_builtin1 (cP (ha pos pins _ σ H _ I2 h) fun us s1 ⟨vs,H1,I1,r1,q1⟩=>Oh pins s1 σ H1 vs us Q I1 r1 q1) hst rfl
end
structure qD (K:PySem.W.Frag) (C:Addr):Prop where
  over:iy K C=true
  sa:PySem.W.findIn K (.ref C) "__setattr__"=some (some (.builtin "object.__setattr__"))
  tk:PySem.W.takerIn K C "number"=some none
  hd:PySem.W.hasDictIn K C=true
  ga:PySem.W.findIn K (.ref C) "__getattribute__"=some (some (.builtin "BaseException.__getattribute__"))
  gh:PySem.W.findIn K (.ref C) "__getattr__"=some none
  nn:PySem.W.findIn K (.ref C) "number"=some none
def Vf (K:PySem.W.Frag):Sp:=fun vs H Q _=>∃ x C n,vs=[.ref x,.int n]∧H x=some (ym x C none)∧qD K C∧∀ d,H d=none→d≠x→Q .non (upd (upd H d (.xd [("number",.int n)])) x (ym x C (some d)))
def LK (K:PySem.W.Frag) (n:Int):Sp:=fun vs H Q _=>∃ x C,vs=[.ref x]∧H x=some (ym x C none)∧qD K C∧∀ d,H d=none→d≠x→Q .non (upd (upd H d (.xd [("number",.int n)])) x (ym x C (some d)))
end XL
end
section
set_option Elab.async false
set_option maxRecDepth 100000
set_option maxHeartbeats 4000000
set_option linter.unusedVariables false
namespace XL
open PySem PySem.Spec PyProof.Rows L2
structure Uz (K:PySem.W.Frag) (C fI:Addr):Prop where
  cls:∃ nm q N bs bm hdct sn sub ab col dd k0 k1 k2 k3 k5,K.lookup C=some (excClassObj nm q C N bs bm hdct sn sub ab col dd k0 k1 k2 k3 k5 "Exception.__new__")∧bm.contains (.type "Exception")=true ∧
    bm.contains (.type "AttributeError")=false∧bm.contains (.type "NameError")=false∧bm.contains (.type "BaseException")=true
  init:PySem.W.findIn K (.ref C) "__init__"=some (some (.ref fI))
  fn:PySem.W.isFn K (.ref fI)=true
  kp:PySem.W.keepIn K (.ref C)=true
def Throws (X:Cx) (E:XK):Prop:=∀ (pins:List (Addr×Obj)) (σ:L2.St) (H:Hp) (s:Shared) (m:Nat) (e C d:Addr),Inv X pins σ H s→X.s_0.heap.objs.size≤m→(∀ p∈X.pn++pins,p.1 < m)→Hx m H s.heap e C d→E (.ref C) (some d) H→X.xe (.ref e) s
theorem Throws.passes {X:Cx} {E:XK} (t:Throws X E):iM (bh X.prog X.w) X E:=by
  intro pins σ H s v s' I h
  obtain ⟨e,C,d,H',rfl,os,bare,un,hok,F,hE⟩:=h
  have I':=I.call' (ch:=[]) os un hok bare (fun b z=>absurd z (by simp))
  exact t pins σ H' s' s.heap.objs.size e C d I' I.sz (fun p hp=>Heap.lt_size (I.pin p hp).1) F hE
theorem bU {P:Program} {w:World} {K:PySem.W.Frag} {mg:Str→Option Value} {base:Heap} {N:List Str} {qual:Str} {scope:Scope} {f:Addr} {cd:Value} {A:Around} {outer:List Env} {s0:Shared} {H0:Hp} {E:XK} :
    Throws (jm (bh P w) P w K mg base N qual scope f cd A outer s0 H0 E) E:=fun pins σ H s m e C d I hm _ F hE=>leaves I (F.grow hm) hE
def H_ (C:Addr) (n:Int) (E:XK):TS:=fun _ _ H=>∀ e d H',(∀ b o,H b=some o→H' b=some o)→H' e=some (Li e C d)→H' d=some (.xd [("number",.int n)])→E (.ref C) (some d) H'
theorem Rb {K:PySem.W.Frag} {f:Addr} (h:PySem.W.isFn K (.ref f)=true) {g:Heap} (X:K.In g):∃ o,g.get? f=some o∧o.cls=.type "function":=by
  have e:=beq_iff_eq.mp h
  unfold PySem.W.typeIn at e
  simp only at e
  cases q:K.lookup f with
  | none=>rw [q] at e; cases e
  | some o =>
    rw [q] at e
    exact ⟨o,X _ _ q,Option.some.inj e⟩
theorem b_ {X:Cx} {C fI:Addr} {x:Str} {np cpos pos:Pos} {n:Int} {E:XK} {k:Nat} {fd:FuncData} (M:Uz X.K C fI) (hc:qD X.K C) (F:aL X.prog X.w X.K X.mg X.base (bh X.prog X.w) k fI fd ["self"] (LK X.K n)) (hr:bH (k+1) X.A)
    (hg:Gl X x) (hm:X.mg x=some (.ref C)) (hb:Binds X.K fd ["self"] []) (calm:X.calm=true) (th:Throws X E) (hdb:(x==("__debug__" : Str))=false:=by decide) :
    PS X (.Raise (some (.Call (.Name x np) [] [] cpos)) none pos) (H_ C n E):=by
  intro pins s σ H D I h
  obtain ⟨nm,q,N,bs,bm,hdct,sn,sub,ab,col,dd,k0,k1,k2,k3,k5,hC,b1,b2,b3,b4⟩:=M.cls
  rw [arm_exec_Raise]
  refine wpAny_bind (wpAny_standAt (Fj (C:=C) (nm:=nm) (q:=q) (N:=N) (bs:=bs) (bm:=bm) (hdct:=hdct) (sn:=sn) (sub:=sub) (ab:=ab) (col:=col) (dd:=dd) (k0:=k0) (k1:=k1) (k2:=k2) (k3:=k3) (k5:=k5) (newId:="Exception.__new__") b4 (I.ok.hd calm) ?_))
  refine wpAny_bind (wpAny_mono (Q:=fun v s1=>∃ e t od osl,v=.ref e∧s1.heap.get? C=some (excClassObj nm q C N bs bm hdct sn sub ab col dd k0 k1 k2 k3 k5 "Exception.__new__") ∧
      s1.heap.get? e=some ⟨.ref C,od,.fields #[.ref t,.none,.none,.none,.bool false,.none],osl⟩∧X.xe (.ref e) s1) (E:=X.xe) ?_ (fun v s3 h3=>wpAny_bind (wpAny_standAt (wpAny_pure h3))) fun _ _ z=>z)
  refine wpAny_Call_Name_kw (jk I hg hm ?_ hdb)
  refine PySem.W.callWith_K0 (first:=[]) I.mD M.kp ?_
  obtain ⟨oI,hoI,hfc⟩:=Rb M.fn I.mD
  obtain ⟨hp,g,dr,tk,os⟩:=s
  refine K5 (w:=X.w) PySem.F.excBase_Exception b1 b2 b3 (I.mD _ _ hC) (PySem.W.looks_findIn I.mD M.init) hoI hfc ?_
  generalize hg2:((hp.push { cls:=.type "tuple",data:=.seq #[] }).push { cls:=.ref C,data:=.fields #[.ref hp.objs.size,.none,.none,.none,.bool false,.none] })=h2
  have up:∀ b u,hp.get? b=some u→h2.get? b=some u:=fun b u e=>by rw [← hg2]; exact Heap.get?_push_of_some _ (Heap.get?_push_of_some _ e)
  have hx:h2.get? (hp.objs.size+1)=some ⟨.ref C,none,.fields #[.ref hp.objs.size,.none,.none,.none,.bool false,.none],#[]⟩:=by rw [← hg2]; heap_get
  have I1:Inv X pins σ (upd H (hp.objs.size+1) (ym (hp.objs.size+1) C none)) ⟨h2,g,dr,tk,os⟩ :=
    I.laid (a:=hp.objs.size+1) (t':=tk) up (Nat.le_succ _) ⟨⟨_,hp.objs.size,hx,rfl,rfl,rfl⟩,⟨_,hx⟩,fun g1 g2 ⟨o,t,y1,y2⟩ k=>⟨o,t,k _ y1,y2⟩⟩
  have hHe:H (hp.objs.size+1)=none:=I.hok.fresh (Nat.le_succ _)
  have hsp:LK X.K n [.ref (hp.objs.size+1)] (upd H (hp.objs.size+1) (ym (hp.objs.size+1) C none)) (fun v H2=>v=.non∧∃ d,H d=none∧d≠hp.objs.size+1∧H2=upd (upd (upd H (hp.objs.size+1) (ym (hp.objs.size+1) C none)) d (.xd [("number",.int n)])) (hp.objs.size+1) (ym (hp.objs.size+1) C (some d))) (fun _ _ _=>False) :=
    ⟨_,C,rfl,ak,hc,fun d hd hne=>⟨rfl,d,by rw [au hne] at hd; exact hd,hne,rfl⟩⟩
  refine wpAny_call (codeAny_mono (F.run _ X.stack ⟨h2,g,dr,tk,os⟩ _ ⟨[.ref (hp.objs.size+1)],[]⟩ [.ref (hp.objs.size+1)] [.ref (hp.objs.size+1)] _ _ (hr.make C [] []) (I1.env0.make C [] []) (hb _ [.ref (hp.objs.size+1)] I1.mD rfl) (.cons rfl .nil) hsp) fun r s' hq=>?_)
  cases r with
  | error v =>
    obtain ⟨_,_,_,_,_,_,_,_,_,_,z⟩:=hq
    exact False.elim z
  | ok fl =>
    cases fl with
    | next=>exact False.elim hq
    | brk=>exact False.elim hq
    | cont=>exact False.elim hq
    | ret u =>
      obtain ⟨v,H2,I3,rv,ev,d,hd,hne,eH⟩:=I1.after hq
      subst ev
      refine ⟨rv,?_⟩
      have ex:H2 (hp.objs.size+1)=some (ym (hp.objs.size+1) C (some d)):=by rw [eH]; exact ak
      obtain ⟨⟨oe,t,y1,y2,y3,y4⟩,_,_⟩:=(show cX X.prog X.w H2 s'.heap (hp.objs.size+1) (ym (hp.objs.size+1) C (some d)) from I3.hok _ _ ex)
      obtain ⟨oc,od,odt,osl⟩:=oe
      dsimp only at y2 y3 y4
      subst y2 y3 y4
      have I4:Inv X pins σ (upd H2 (hp.objs.size+1) (Li (hp.objs.size+1) C d)) s':=by
        have w1:=I3.write (x:=hp.objs.size+1) (e:=hp.objs.size+1) (o:=Li (hp.objs.size+1) C d) (t':=s'.toks) (h':=s'.heap) (by rw [ex]; exact True.intro) (.inl rfl) (fun b z _ e=>e) ⟨_,y1⟩
          ⟨⟨_,_,y1,rfl,rfl,rfl⟩,⟨_,y1⟩,fun g1 g2 ⟨o,t,z1,z2⟩ k=>⟨o,t,k _ z1,z2⟩⟩
        exact w1
      refine ⟨hp.objs.size+1,t,some d,osl,rfl,I3.mD _ _ hC,y1,?_⟩
      refine th pins σ _ s' hp.objs.size (hp.objs.size+1) C d I4 I.sz (fun p hp=>Heap.lt_size (I.pin p hp).1) ⟨ak,Nat.le_succ _,.none,⟨_,_,y1,rfl,rfl,rfl,rfl⟩,.inl rfl⟩ ?_
      refine h (hp.objs.size+1) d _ (fun b o e=>?_) ak ?_
      · have nb:b≠hp.objs.size+1:=aB e hHe
        rw [au nb,eH,au nb,au (aB e hd),au nb]
        exact e
      · rw [au hne,eH,au hne]
        exact ak
end XL
end
section
set_option Elab.async false
set_option maxRecDepth 100000
set_option maxHeartbeats 4000000
namespace XL
open PySem PySem.Spec PyProof.Rows L2
section
variable {X:Cx} {pins:List (Addr×Obj)} {σ:L2.St} {H:Hp} {s:Shared} {e C d:Addr}
theorem q_ {as:List Addr} {fl:Value} {h':Heap} {m:Nat} (I:Inv X pins σ H s) (F:Hx m H s.heap e C d) (hm:X.s_0.heap.objs.size≤m) (hp:∀ p∈X.pn++pins,p.1 < m)
    (g3:∀ b∈as,b=e∨H b=none) (g4:∀ b∈as,b∈frs X.stack∨m≤b) (g6:∀ b∈as,b=e∨b∈frs X.stack∨∃ o vs,s.heap.get? b=some o∧o.data=.fields vs)
    (S:O2 (PySem.W.hideAll s.heap as) X.stack e (.ref C) (some d) fl s.heap h'):Inv X pins σ H { s with heap:=h' }:=by
  have hst:=I.stack
  have fd:∀ b∈frs X.stack,∀ o vs,s.heap.get? b=some o→o.data≠.fields vs:=fun b hb o vs ho hd=>by
    obtain ⟨_,o',ho',hd'⟩:=hst.mem hb
    rw [ho] at ho'
    cases ho'
    exact hd' vs hd
  have isT:∀ b,b∈(as.filter fun b=>decide (b≠e) && decide (b∉frs X.stack))↔b∈as∧b≠e∧b∉frs X.stack:=fun b=>by
    rw [List.mem_filter,Bool.and_eq_true,decide_eq_true_eq,decide_eq_true_eq]
  refine I.call' (s':={ s with heap:=h' }) (ch:=as.filter fun b=>decide (b≠e) && decide (b∉frs X.stack)) rfl ⟨fun b o q n hb hx=>?_,fun b o q n hb hx=>?_,fun b o q n hx=>n,fun b o q hx=>?_,fun _ _ q=>q,fun _ _ _ q=>q,fun b ps q=>⟨#[],by rw [q]; simp⟩⟩ (rn I.hok F.ex g3 S) I.bare fun b hb=>?_
  · refine S.st b o (PySem.W.hideAll_get _ q fun z=>hx ((isT b).mpr ⟨z,fun y=>?_,hb⟩))
    rw [y,F.ex] at n
    cases n
  · exact S.sl b o q fun vs z=>fd b hb o vs q z
  · by_cases z:b∈as
    · by_cases ze:b=e
      · subst ze
        obtain ⟨_,⟨oe,_,x1,_⟩,_⟩:=S.ex
        exact ⟨oe,x1⟩
      · by_cases zf:b∈frs X.stack
        · obtain ⟨_,o',ho',_⟩:=S.fr.mem zf
          exact ⟨o',ho'⟩
        · exact absurd ((isT b).mpr ⟨z,ze,zf⟩) hx
    · exact ⟨o,S.st b o (PySem.W.hideAll_get _ q z)⟩
  · obtain ⟨z,ze,zf⟩:=(isT b).mp hb
    have hmb:m≤b:=(g4 b z).elim (fun y=>absurd y zf) id
    obtain ⟨o,vs,ho,hd⟩:=(g6 b z).elim (fun y=>absurd y ze) fun y=>y.elim (fun y=>absurd y zf) id
    refine ⟨.inr (Nat.le_trans hm hmb),fun y=>?_,fun x c hc y=>?_,fun p hpp y=>?_⟩
    · obtain ⟨mm,⟨o',es,ep,ho',hd',_⟩,_⟩:=I.loc
      rw [← y,ho] at ho'
      cases ho'
      rw [hd] at hd'
      cases hd'
    · obtain ⟨v,o',ho',hd'⟩:=I.cell x c hc
      rw [y,ho] at ho'
      cases ho'
      rw [hd] at hd'
      cases hd'
    · have:=hp p hpp
      rw [y] at this
      exact absurd this (Nat.not_lt.mpr hmb)
theorem BJ {h':Heap} {m':Str→Option Value} {tk:Nat} (I:Inv X pins σ H s) (hn:h'.Ns X.env.locals m') (hs:Heap.SameBut X.env.locals s.heap h'):Inv X pins (List.replicate σ.length none) H { s with heap:=h',toks:=tk }:=by
  have neL:∀ b o,X.s_0.heap.get? b=some o→b≠X.env.locals:=fun b o e=>Nat.ne_of_lt (Nat.lt_of_lt_of_le (Heap.lt_size e) I.ok.above)
  refine ⟨I.ok,I.os,I.bare,⟨fun b o e n hb hx=>(hs.2 b (neL b o e)).trans (I.base.keep b o e n hb hx),fun b o e n hb hx=>?_,I.base.free,fun b o e hx=>?_,I.base.tups,I.base.frzs,I.base.tbls⟩,⟨m',hn,fun j y v' e1 e2 e3=>?_⟩,fun y c e=>?_,I.free,I.freeC,fun p hp=>?_,fun b ob e=>?_,by rw [List.length_replicate]; exact I.len⟩
  · obtain ⟨sl,e1⟩:=I.base.slot b o e n hb hx
    exact ⟨sl,(hs.2 b (neL b o e)).trans e1⟩
  · obtain ⟨o',e1⟩:=I.base.there b o e hx
    exact ⟨o',(hs.2 b (neL b o e)).trans e1⟩
  · rw [List.getElem?_replicate] at e2
    split at e2 <;> cases e2
  · obtain ⟨w',z⟩:=I.cell y c e
    exact ⟨w',z.sameBut hs (I.Pz y c e)⟩
  · obtain ⟨e,n,ne,nf,dd⟩:=I.pin p hp
    exact ⟨(hs.2 p.1 ne).trans e,n,ne,nf,dd⟩
  · refine (I.hok b ob e).stay (fun c w' hc q=>(hs.2 c ?_).trans q) (fun _ q=>q) fun _ _ q=>q
    intro z
    rcases hc with hc | hc
    · rw [← hc,z,I.free] at e
      cases e
    · rw [z,I.free] at hc
      cases hc
abbrev O7 (X:Cx) (e:Addr) (E:Value→Shared→Prop):Cx:={ X with A:=X.A.mark (some (.ref e)),calm:=false,xe:=E }
abbrev Du (X:Cx) (pn:List (Addr×Obj)) (E:Value→Shared→Prop):Cx:={ X with xe:=E,pn:=pn }
theorem Dt (I:Inv X pins σ H s) (e:Addr) (E:Value→Shared→Prop):Inv (O7 X e E) pins σ H s :=
  ⟨⟨I.ok.mod,I.ok.kind,I.ok.glob,I.ok.blt,I.ok.above,I.ok.inj,I.ok.has,I.ok.cab,fun z=>Bool.noConfusion z,I.ok.frames,I.ok.stk,I.ok.exf,I.ok.bs,I.ok.bsz,I.ok.noex,I.ok.exfs,I.ok.oR,I.ok.frf⟩,I.os,I.bare,I.base,I.loc,I.cell,I.free,I.freeC,I.pin,I.hok,I.len⟩
theorem Q3 {E:Value→Shared→Prop} {hd:X.calm=true→X.A.handled=none} (I:Inv (O7 X e E) pins σ H s):Inv X pins σ H s :=
  ⟨⟨I.ok.mod,I.ok.kind,I.ok.glob,I.ok.blt,I.ok.above,I.ok.inj,I.ok.has,I.ok.cab,hd,I.ok.frames,I.ok.stk,I.ok.exf,I.ok.bs,I.ok.bsz,I.ok.noex,I.ok.exfs,I.ok.oR,I.ok.frf⟩,I.os,I.bare,I.base,I.loc,I.cell,I.free,I.freeC,I.pin,I.hok,I.len⟩
theorem NZ (I:Inv X pins σ H s) (E:Value→Shared→Prop):Inv (Du X (X.pn++pins) E) [] σ H s :=
  ⟨⟨I.ok.mod,I.ok.kind,I.ok.glob,I.ok.blt,I.ok.above,I.ok.inj,I.ok.has,I.ok.cab,I.ok.hd,I.ok.frames,I.ok.stk,I.ok.exf,I.ok.bs,I.ok.bsz,I.ok.noex,I.ok.exfs,I.ok.oR,I.ok.frf⟩,I.os,I.bare,I.base,I.loc,I.cell,I.free,I.freeC,fun p hp=>I.pin p (by rw [List.append_nil] at hp; exact hp),I.hok,I.len⟩
theorem xF {E:Value→Shared→Prop} {qs:List (Addr×Obj)} (I:Inv (Du X (X.pn++pins) E) qs σ H s):Inv X pins σ H s :=
  ⟨⟨I.ok.mod,I.ok.kind,I.ok.glob,I.ok.blt,I.ok.above,I.ok.inj,I.ok.has,I.ok.cab,I.ok.hd,I.ok.frames,I.ok.stk,I.ok.exf,I.ok.bs,I.ok.bsz,I.ok.noex,I.ok.exfs,I.ok.oR,I.ok.frf⟩,I.os,I.bare,I.base,I.loc,I.cell,I.free,I.freeC,fun p hp=>I.pin p (List.mem_append_left _ hp),I.hok,I.len⟩
end
end XL
end
section
set_option Elab.async false
set_option maxRecDepth 100000
set_option maxHeartbeats 4000000
set_option linter.unusedVariables false
namespace XL
open PySem PySem.Spec PyProof.Rows L2
def RN (K:PySem.W.Frag) (ta:TE):TE:=fun σ H Q=>ta σ H fun v H1=>∃ x C d n,v=.ref x∧H1 x=some (Li x C d)∧H1 d=some (.xd [("number",.int n)])∧qD K C∧Q (.int n) H1
theorem Mz {X:Cx} {e:Expr} {pos:Pos} {ta:TE} (he:PE X e ta) (hb:attributeBase e "number" X.env (eval e X.env)=eval e X.env):PE X (.Attribute e "number" pos) (RN X.K ta):=by
  intro pins s σ H Q I h
  refine D_ hb (cP (he pins s σ H _ I h) fun u s1 ⟨v,H1,I1,rx,x,C,d,n,ex,hx,hd,hc,q⟩=>?_)
  subst ex
  obtain rfl:u=Value.ref x:=rx
  obtain ⟨⟨oe,vs,h1,h2,h3,h4⟩,_,_⟩:=(show cX X.prog X.w H1 s1.heap x (Li x C d) from I1.hok x _ hx)
  obtain ⟨mA,hns,hrel⟩:=(show cX X.prog X.w H1 s1.heap d (.xd [("number",.int n)]) from I1.hok d _ hd)
  have hr:=hrel "number"
  rw [List.lookup_cons_self] at hr
  obtain ⟨u,hu,ru⟩:=mV.some_of hr
  obtain ⟨t,rfl⟩:=(show ∃ t,u=Value.int n t from ru)
  obtain ⟨od,hod,hl⟩:=v9 hns
  have nc:PySem.W.notCls oe=true:=by
    unfold PySem.W.notCls
    obtain ⟨_,_,dt,_⟩:=oe
    cases dt <;> first | rfl | cases h4
  have J:PySem.W.InstAt s1.heap x oe C (some od):=⟨h1,h2,nc,by rw [h3]; exact hod⟩
  refine N7 I1.mD J hc.over hc.ga hc.gh (PySem.W.findObj_own hc.hd hc.nn rfl (by rw [hl,hu])) rfl ?_
  exact ⟨.int n,H1,I1.tok _,⟨t,rfl⟩,q⟩
def wF (K:PySem.W.Frag) (Rc:Addr) (D:Ends):XK:=fun c dd H=>∃ C d n,c=.ref C∧dd=some d∧qD K C∧PySem.W.exmOne K (.ref C) (.ref Rc)=some true∧H d=some (.xd [("number",.int n)])∧∀ l,H l=none→D.rt (.ref l) (upd H l (.lst [.int n]))
def TJ (K:PySem.W.Frag) (Rc:Addr) (tb:XK→TS):TS:=fun D σ H=>tb (wF K Rc D) { D with nx:=fun _ _=>False } σ H
theorem Fo {X:Cx} {Rc:Addr} {body:List Stmt} {cn x:Str} {i:Nat} {p1 p2 p3 p4 p5 hp pos:Pos} {tb:XK→TS} (calm:X.calm=true) (hN:X.N.Nodup) (hi:X.N[i]?=some x) (hloc:X.env.scope.names.lookup x=some .local) (hg:Gl X cn) (hm:X.mg cn=some (.ref Rc))
    (hst:X.stack=X.env :: X.outer) (hfr:X.env.frame=some X.env.locals)
    (hb:∀ (pn:List (Addr×Obj)) (xe:Value→Shared→Prop) (E:XK),Throws (Du X pn xe) E→Hv (Du X pn xe) body (tb E))
    (hat:∀ e E,attributeBase (.Name x p4) "number" (O7 X e E).env (eval (.Name x p4) (O7 X e E).env)=eval (.Name x p4) (O7 X e E).env:=by intro _ _; rfl) (hdb:(cn==("__debug__" : Str))=false:=by decide) (hdx:(x==("__debug__" : Str))=false:=by decide) (hcx:(x==("__classdict__" : Str))=false:=by decide) :
    PS X (.Try body [.ExceptHandler (some (.Name cn p1)) (some x) [.Return (some (.List [.Attribute (.Name x p4) "number" p3] p2)) p5] hp] [] [] pos) (TJ X.K Rc tb):=by
  intro pins s σ H D I h
  refine wpAny_Try_except ?_
  refine wpAny_mono (hb (X.pn++pins) (fun v s1=>wpAny (model X.prog X.w) X.A (noteFrame v X.env) (fun _ s2=>wpAny (model X.prog X.w) X.A (setFlight v none) (fun _ s3 =>
      wpAny (model X.prog X.w) X.A (handleBy v X.env [.ExceptHandler (some (.Name cn p1)) (some x) [.Return (some (.List [.Attribute (.Name x p4) "number" p3] p2)) p5] hp]) (SP X pins D) X.xe s3) X.xe s2) X.xe s1)
    (wF X.K Rc D) ?_ [] s σ H _ (NZ I _) h) (fun f s1 q=>?_) fun _ _ z=>z
  · -- an exception comes
    intro qs σ1 H1 s1 m e C d J hm1 hpn F hE
    have I1:=xF J
    have I1':Inv X pins σ1 H1 s1:=I1
    obtain ⟨as,g1,g2,g3,g4,g5,g6⟩:=F.ground (frs X.stack) I1.ni
    have hpins:∀ p∈X.pn++pins,p.1 < m:=fun p hp=>hpn p (List.mem_append_left _ hp)
    have hfun:=PySem.W.funFrames_hide I1.stack fun env he b hb=>g1 b (List.mem_filterMap.mpr ⟨env,he,hb⟩)
    have frames:X.A.frames=some (X.env :: X.outer):=by rw [← hst]; exact I1.ok.frames
    rw [hst] at hfun
    show wpAny _ _ (noteFrame (.ref e) X.env) _ _ _
    refine Do (base:=PySem.W.hideAll s1.heap as) frames hfun hfr g5 (fun b o q=>PySem.W.of_hideAll _ q) (PySem.W.hideAll_none _ g2) fun h2 S2=>?_
    refine qi (s:={ s1 with heap:=h2 }) S2 fun h3 S3=>?_
    rw [← hst] at S3
    have I3:Inv X pins σ1 H1 { s1 with heap:=h3 }:=q_ I1 F hm1 hpins g3 g4 g6 S3
    have F3:Hx m H1 h3 e C d:=F.Cu I1.hok (Nat.le_of_not_lt fun z=>by
      have:=F.new
      obtain ⟨⟨oe,_,x1,_⟩,_,_⟩:=(show cX X.prog X.w H1 s1.heap e (Li e C d) from I1.hok e _ F.ex)
      exact absurd (Nat.lt_of_lt_of_le (Nat.lt_of_lt_of_le z this) (Nat.le_of_lt (Heap.lt_size x1))) (Nat.lt_irrefl _)) S3
    obtain ⟨C',d',n,e1,e2,hc,hx,hd,k⟩:=hE
    cases e1
    cases e2
    have J3:=Dt I3 e (fun _ _=>False)
    refine wpAny_handleBy_cons (codeAny_handlers_test (jk (X:=O7 X e fun _ _=>False) J3 hg hm ?_ hdb)) (by intro q; cases q)
    obtain ⟨oe,vs,x1,x2,x3,x4⟩:=(show cX X.prog X.w H1 h3 e (Li e C d) from I3.hok e _ F3.ex).1
    have LT:PySem.W.Looks (model X.prog X.w) h3 (typeOf (.ref e)) (.ref C):=x2 ▸ (PySem.W.Looks.ld x1).andThen .now
    refine PySem.W.Looks.here (s:={ s1 with heap:=h3 }) (PySem.W.exm_one I3.mD LT hx) ?_
    refine codeAny_handlers_suite_as ?_
    obtain ⟨bs,k1,k2,k3,k4,k5,k6⟩:=F3.ground (frs X.stack) I3.ni
    have hfun3:=PySem.W.funFrames_hide I3.stack fun env he b hb=>k1 b (List.mem_filterMap.mpr ⟨env,he,hb⟩)
    obtain ⟨T,y1,y2,y3,y4,y5⟩:=S3.ex
    have again:∀ (A':Around) (Q':Unit→Shared→Prop) (E':Value→Shared→Prop),(∀ h4,Inv X pins σ1 H1 { s1 with heap:=h4 }→Q' () { s1 with heap:=h4 })→wpAny (model X.prog X.w) A' (setFlight (.ref e) none) Q' E' { s1 with heap:=h3 }:=fun A' Q' E' hq=>by
      refine qi (s:={ s1 with heap:=h3 }) (base:=PySem.W.hideAll s1.heap as) (h0:=s1.heap) S3 fun h4 S4=>hq h4 ?_
      exact q_ I1 F hm1 hpins g3 g4 g6 S4
    refine again _ _ _ fun h4 I4=>?_
    have J4:=Dt I4 e (fun _ _=>False)
    refine m_ (X:=O7 X e fun _ _=>False) (i:=i) (v:=.ref e) J4 hN hi (.inl hloc) rfl (fun s5 J5=>?_) (.inr hloc)
    have body:Hv (O7 X e fun _ _=>False) [.Return (some (.List [.Attribute (.Name x p4) "number" p3] p2)) p5] _:=ao (aJ (bW (aa (Mz (Jz (i:=i) hi (.inl hloc) hdx hcx) (hat e _)) aq)))
    have hiσ:i < σ1.length:=by rw [I4.len]; exact (List.getElem?_eq_some_iff.mp hi).1
    refine wpAny_mono (body pins s5 (σ1.set i (some (.ref e))) H1 { nx:=fun _ _=>False,rt:=D.rt } J5 ⟨_,List.getElem?_set_self hiσ,e,C,d,n,rfl,F.ex,hd,hc,by show 1≤sizeLine; decide,fun l hl=>k l hl⟩) (fun f s6 q6=>?_) fun _ _ z=>False.elim z
    cases f with
    | next=>obtain ⟨_,_,_,z⟩:=q6; exact False.elim z
    | brk=>obtain ⟨_,_,_,z⟩:=q6; exact False.elim z
    | cont=>obtain ⟨_,_,_,z⟩:=q6; exact False.elim z
    | ret u =>
      obtain ⟨v,σ6,H6,J6,rv,q6⟩:=q6
      have I6:Inv X pins σ6 H6 s6:=Q3 (hd:=I.ok.hd) J6
      obtain ⟨m6,hn6,_⟩:=id I6.loc
      refine wpAny_nameGoes hloc hn6 (by rw [I6.ok.kind]; rfl) fun h7 m7 hn7 hs7=>?_
      exact ⟨v,_,H6,BJ I6 hn7 hs7,rv,q6⟩
  · -- no exception
    cases f with
    | next=>obtain ⟨_,_,_,z⟩:=q; exact False.elim z
    | brk=>obtain ⟨σ',H',J,z⟩:=q; exact ⟨σ',H',xF J,z⟩
    | cont=>obtain ⟨σ',H',J,z⟩:=q; exact ⟨σ',H',xF J,z⟩
    | ret u=>obtain ⟨v,σ',H',J,r,z⟩:=q; exact ⟨v,σ',H',xF J,r,z⟩
end XL
end
section
set_option linter.all false
namespace MX
open Vbdeaa (Exp Exps Ins Code)
open Vbdeam (plain orParts andParts ifParts jumpOf isOne isZeroIns isTruthIns parse)
inductive Run (n:Nat):Code→List Exp→Exp→Prop
  | done (e:Exp):Run n [] [e] e
  | plain {i:Ins} {r:Code} {st t:List Exp} {e:Exp}:plain n i st=some t→Run n r t e→Run n (i :: r) st e
  | or_ {a:Exp} {st:List Exp} {k:Nat} {r b rest:Code} {y e:Exp}:orParts k r=some (b,rest)→Run n b [] y→Run n rest (.or a y :: st) e→Run n (.zero k :: r) (a :: st) e
  | and_ {a:Exp} {st:List Exp} {k:Nat} {r b rest:Code} {y e:Exp}:andParts k r=some (b,rest)→Run n b [] y→Run n rest (.and a y :: st) e→Run n (.zero k :: r) (a :: st) e
  | if_ {a:Exp} {st:List Exp} {k:Nat} {r x y rest:Code} {u v e:Exp}:ifParts k r=some (x,y,rest)→Run n x [] u→Run n y [] v→Run n rest (.cond a u v :: st) e→Run n (.zero k :: r) (a :: st) e
theorem gJ (n k:Nat) (st:List Exp):plain n (.zero k) st=none:=by
  unfold Vbdeam.plain
  split <;> simp_all
theorem ji (n k:Nat) (st:List Exp):plain n (.jump k) st=none:=by
  unfold Vbdeam.plain
  split <;> simp_all
theorem ik (n:Nat) (st:List Exp):plain n .truth st=none:=by
  unfold Vbdeam.plain
  split <;> simp_all
theorem qR {n k:Nat} {i:Ins} {r:Code} {st:List Exp} (h:∀ m,i≠.zero m):parse n (k+1) (i :: r) st=(plain n i st).bind fun t=>parse n k r t:=by
  cases i with
  | zero m=>exact absurd rfl (h m)
  | push q=>show (match plain n (.push q) st with | some t=>parse n k r t | none=>none)=_; cases plain n (.push q) st <;> rfl
  | arg q=>show (match plain n (.arg q) st with | some t=>parse n k r t | none=>none)=_; cases plain n (.arg q) st <;> rfl
  | var q=>show (match plain n (.var q) st with | some t=>parse n k r t | none=>none)=_; cases plain n (.var q) st <;> rfl
  | un q=>show (match plain n (.un q) st with | some t=>parse n k r t | none=>none)=_; cases plain n (.un q) st <;> rfl
  | bin q=>show (match plain n (.bin q) st with | some t=>parse n k r t | none=>none)=_; cases plain n (.bin q) st <;> rfl
  | jump q=>show (match plain n (.jump q) st with | some t=>parse n k r t | none=>none)=_; cases plain n (.jump q) st <;> rfl
  | table q=>show (match plain n (.table q) st with | some t=>parse n k r t | none=>none)=_; cases plain n (.table q) st <;> rfl
  | call q q'=>show (match plain n (.call q q') st with | some t=>parse n k r t | none=>none)=_; cases plain n (.call q q') st <;> rfl
  | truth=>show (match plain n .truth st with | some t=>parse n k r t | none=>none)=_; cases plain n .truth st <;> rfl
  | best q=>show (match plain n (.best q) st with | some t=>parse n k r t | none=>none)=_; cases plain n (.best q) st <;> rfl
theorem fZ {n:Nat}:∀ {k:Nat} {c:Code} {st:List Exp} {e:Exp},parse n k c st=some e→Run n c st e:=by
  intro k
  induction k with
  | zero=>intro c st e h; rw [parse] at h; cases h
  | succ k ih =>
    intro c st e h
    cases c with
    | nil =>
      match st,h with
      | [x],h=>rw [parse] at h; cases h; exact .done e
      | [],h=>cases h
      | x :: y :: s,h=>cases h
    | cons i r =>
      by_cases hz:∃ m,i=.zero m
      · obtain ⟨m,rfl⟩:=hz
        match st,h with
        | [],h=>rw [parse] at h; cases h
        | a :: st,h =>
          rw [parse] at h
          split at h
          · rename_i e' h1
            cases h
            split at h1
            · rename_i b rest hp
              obtain ⟨y,hy,he⟩:=Option.bind_eq_some_iff.mp h1
              exact .or_ hp (ih hy) (ih he)
            · cases h1
          · split at h
            · rename_i e' h1
              cases h
              split at h1
              · rename_i b rest hp
                obtain ⟨y,hy,he⟩:=Option.bind_eq_some_iff.mp h1
                exact .and_ hp (ih hy) (ih he)
              · cases h1
            · split at h
              · rename_i x y rest hp
                obtain ⟨u,hu,h2⟩:=Option.bind_eq_some_iff.mp h
                obtain ⟨v,hv,he⟩:=Option.bind_eq_some_iff.mp h2
                exact .if_ hp (ih hu) (ih hv) (ih he)
              · cases h
      · rw [qR (fun m z=>hz ⟨m,z⟩)] at h
        obtain ⟨t,ht,he⟩:=Option.bind_eq_some_iff.mp h
        exact .plain ht (ih he)
structure Ch where
  cond:Exp
  start:Nat
  middle:Nat
  end_:Nat
  first:Option Exp
  below:List Exp
structure MS where
  pos:Nat
  cur:List Exp
  chs:List Ch
def Ch.limit (x:Ch):Nat:=match x.first with
  | none=>x.middle - 1
  | some _=>x.end_
def limitOf (c:Code):List Ch→Nat
  | []=>c.length
  | x :: _=>x.limit
def isAnd (c:Code) (x:Ch):Bool:=decide (x.end_=x.middle+1) && (c[x.middle]?).any isZeroIns
def vp (c:Code) (x:Ch):Bool:=decide (x.middle=x.start+3) && (c[x.start+1]?).any isOne
def settle (p:Nat):List Exp→List Ch→Option MS
  | cur,[]=>some ⟨p,cur,[]⟩
  | cur,x :: r=>if p=x.end_ then (match cur,x.first with
    | [e],some f=>settle p (.cond x.cond f e :: x.below) r
    | _,_=>none) else some ⟨p,cur,x :: r⟩
def nine (c:Code) (s:MS):Option MS:=match s.cur,s.chs with
  | [e],x :: r=>match x.first with
    | none=>if isAnd c x=true∧s.pos+2=x.middle then some ⟨x.end_,.and x.cond e :: x.below,r⟩ else none
    | some _=>if vp c x=true∧s.pos+1=x.end_ then some ⟨x.end_,.or x.cond e :: x.below,r⟩ else none
  | _,_=>none
def jump (s:MS):Option MS:=match s.cur,s.chs with
  | [e],x :: r=>if s.pos+1=x.middle then some ⟨s.pos+1,[],{ x with first:=some e } :: r⟩ else none
  | _,_=>none
def begin_ (c:Code) (k:Nat) (s:MS):Option MS:=match s.cur with
  | []=>none
  | a :: st=>match (if limitOf c s.chs < s.pos+1+k then none else (c[s.pos+k]?).bind jumpOf) with
    | none=>none
    | some m=>if limitOf c s.chs < s.pos+1+k+m then none else some ⟨s.pos+1,[],⟨a,s.pos,s.pos+1+k,s.pos+1+k+m,none,st⟩ :: s.chs⟩
def core (n:Nat) (c:Code) (i:Ins) (s:MS):Option MS:=match i with
  | .zero k=>begin_ c k s
  | .jump _=>jump s
  | .truth=>nine c s
  | i=>(plain n i s.cur).map fun t=>⟨s.pos+1,t,s.chs⟩
def step (n:Nat) (c:Code) (s:MS):Option MS:=match c[s.pos]? with
  | none=>none
  | some i=>(core n c i s).bind fun t=>settle t.pos t.cur t.chs
inductive Reach (n:Nat) (c:Code):MS→MS→Prop
  | refl (s:MS):Reach n c s s
  | step {s t u:MS}:step n c s=some t→Reach n c t u→Reach n c s u
theorem Reach.trans {n:Nat} {c:Code} {s t u:MS} (h:Reach n c s t) (g:Reach n c t u):Reach n c s u:=by
  induction h with
  | refl=>exact g
  | step a _ ih=>exact .step a (ih g)
def At (c:Code) (p:Nat) (b:Code):Prop:=∀ j,j < b.length→c[p+j]?=b[j]?
theorem At.tail {c:Code} {p:Nat} {i:Ins} {b:Code} (h:At c p (i :: b)):At c (p+1) b:=fun j hj=>by
  have:=h (j+1) (by simp; omega)
  rw [List.getElem?_cons_succ] at this
  rw [← this]
  congr 1
  omega
theorem At.head {c:Code} {p:Nat} {i:Ins} {b:Code} (h:At c p (i :: b)):c[p]?=some i:=by
  have:=h 0 (by simp)
  simpa using this
theorem At.take {c:Code} {p:Nat} {b:Code} (h:At c p b) (k:Nat):At c p (b.take k):=fun j hj=>by
  rw [List.length_take] at hj
  rw [h j (by omega),List.getElem?_take,if_pos (by omega)]
theorem At.drop {c:Code} {p:Nat} {b:Code} (h:At c p b) (k:Nat):At c (p+k) (b.drop k):=fun j hj=>by
  rw [List.length_drop] at hj
  rw [List.getElem?_drop,Nat.add_assoc]
  exact h (k+j) (by omega)
end MX
end
section
set_option linter.all false
namespace MX
open Vbdeaa (Exp Exps Ins Code)
open Vbdeam (plain orParts andParts ifParts jumpOf isOne isZeroIns isTruthIns parse)
theorem zq {i:Ins} (h:isOne i=true):i=.push (1,1):=by
  cases i with
  | push q=>rw [show q=(1,1) from by simpa [isOne] using h]
  | _=>cases h
theorem isZero_eq {i:Ins} (h:isZeroIns i=true):i=.push (0,1):=by
  cases i with
  | push q=>rw [show q=(0,1) from by simpa [isZeroIns] using h]
  | _=>cases h
theorem uG {i:Ins} (h:isTruthIns i=true):i=.truth:=by
  cases i with
  | truth=>rfl
  | _=>cases h
theorem v_ {i:Ins} {m:Nat} (h:jumpOf i=some m):i=.jump m:=by
  cases i with
  | jump q=>cases h; rfl
  | _=>cases h
theorem any_eq {o:Option Ins} {f:Ins→Bool} (h:o.any f=true):∃ i,o=some i∧f i=true:=by
  cases o with
  | none=>cases h
  | some i=>exact ⟨i,rfl,h⟩
theorem lE {o:Option Ins} {m:Nat} (h:o.bind jumpOf=some m):o=some (.jump m):=by
  cases o with
  | none=>cases h
  | some i=>rw [v_ (show jumpOf i=some m from h)]
theorem Bj {k:Nat} {r b rest:Code} (h:orParts k r=some (b,rest)):∃ m r2,r=.push (1,1) :: .jump m :: r2∧k=2∧1≤m∧m≤r2.length∧r2[m - 1]?=some .truth∧b=r2.take (m - 1)∧rest=r2.drop m:=by
  unfold Vbdeam.orParts at h
  split at h
  · rename_i one j r2
    split at h
    · rename_i m hj
      split at h
      · rename_i hc
        obtain ⟨h1,h2,h3,h4,h5⟩:=hc
        obtain ⟨i,hi,ht⟩:=any_eq h5
        cases h
        rw [zq h2,v_ hj]
        exact ⟨m,r2,rfl,h1,h3,h4,by rw [hi,uG ht],rfl,rfl⟩
      · cases h
    · cases h
  · cases h
theorem R8 {m:Nat} {r2:Code} (h1:1≤m) (h2:m≤r2.length) (h3:r2[m - 1]?=some .truth):orParts 2 (.push (1,1) :: .jump m :: r2)=some (r2.take (m - 1),r2.drop m):=by
  unfold Vbdeam.orParts
  simp only [jumpOf]
  rw [if_pos ⟨trivial,by decide,h1,h2,by rw [h3]; rfl⟩]
theorem yh {k:Nat} {r b rest:Code} (h:andParts k r=some (b,rest)):2≤k∧k+1≤r.length∧r[k - 2]?=some .truth∧r[k - 1]?=some (.jump 1)∧r[k]?=some (.push (0,1))∧b=r.take (k - 2)∧rest=r.drop (k+1):=by
  unfold Vbdeam.andParts at h
  split at h
  · rename_i hc
    obtain ⟨h1,h2,h3,h4,h5⟩:=hc
    obtain ⟨i,hi,ht⟩:=any_eq h3
    obtain ⟨j,hj,hz⟩:=any_eq h5
    cases h
    exact ⟨h1,h2,by rw [hi,uG ht],lE h4,by rw [hj,isZero_eq hz],rfl,rfl⟩
  · cases h
theorem Ro {k:Nat} {r:Code} (h1:2≤k) (h2:k+1≤r.length) (h3:r[k - 2]?=some .truth) (h4:r[k - 1]?=some (.jump 1)) (h5:r[k]?=some (.push (0,1))):andParts k r=some (r.take (k - 2),r.drop (k+1)):=by
  unfold Vbdeam.andParts
  rw [if_pos ⟨h1,h2,by rw [h3]; rfl,by rw [h4]; rfl,by rw [h5]; rfl⟩]
theorem BL {k:Nat} {r x y rest:Code} (h:ifParts k r=some (x,y,rest)):∃ m,k≠0∧r[k - 1]?=some (.jump m)∧k+m≤r.length∧x=r.take (k - 1)∧y=(r.drop k).take m∧rest=r.drop (k+m):=by
  unfold Vbdeam.ifParts at h
  split at h
  · cases h
  · rename_i hk
    split at h
    · rename_i m hm
      split at h
      · rename_i hl
        cases h
        exact ⟨m,hk,lE hm,hl,rfl,rfl,rfl⟩
      · cases h
    · cases h
theorem Ss {k m:Nat} {r:Code} (h1:k≠0) (h2:r[k - 1]?=some (.jump m)) (h3:k+m≤r.length):ifParts k r=some (r.take (k - 1),(r.drop k).take m,r.drop (k+m)):=by
  unfold Vbdeam.ifParts
  rw [if_neg h1,h2]
  simp only [Option.bind_some,jumpOf]
  rw [if_pos h3]
theorem bV {p:Nat} {st:List Exp} {chs:List Ch} (h:∀ x r,chs=x :: r→p≠x.end_):settle p st chs=some ⟨p,st,chs⟩:=by
  cases chs with
  | nil=>rfl
  | cons x r =>
    unfold settle
    rw [if_neg (h x r rfl)]
theorem uQ {n:Nat} {c:Code} {i:Ins} {s:MS} {t:List Exp} (h:plain n i s.cur=some t):core n c i s=some ⟨s.pos+1,t,s.chs⟩:=by
  cases i with
  | zero k=>rw [gJ] at h; cases h
  | jump k=>rw [ji] at h; cases h
  | truth=>rw [ik] at h; cases h
  | _=>unfold core; simp only; rw [h]; rfl
theorem gF {n:Nat} {c:Code} {s t u:MS} {i:Ins} (hi:c[s.pos]?=some i) (hc:core n c i s=some t) (hs:settle t.pos t.cur t.chs=some u):step n c s=some u:=by
  unfold step
  rw [hi]
  simp only
  rw [hc]
  exact hs
theorem sim {n:Nat} {b:Code} {st:List Exp} {e:Exp} (h:Run n b st e):∀ (c:Code) (p:Nat) (chs:List Ch),At c p b→p+b.length≤limitOf c chs→(∀ x r,chs=x :: r→x.limit≤x.end_)→∀ t,settle (p+b.length) [e] chs=some t→∃ s,settle p st chs=some s∧Reach n c s t:=by
  induction h with
  | done e=>intro c p chs _ _ _ t ht; exact ⟨t,ht,.refl t⟩
  | @plain i r st t' e hp hr ih =>
    intro c p chs ha hl hx t ht
    rw [List.length_cons] at hl ht
    have hid:settle p st chs=some ⟨p,st,chs⟩:=bV fun x q eq=>by
      have:=hx x q eq
      subst eq
      have:limitOf c (x :: q)=x.limit:=rfl
      omega
    obtain ⟨s2,h2,r2⟩:=ih c (p+1) chs ha.tail (by omega) hx t (by rw [show p+1+r.length=p+(r.length+1) by omega]; exact ht)
    exact ⟨_,hid,.step (gF (s:=⟨p,st,chs⟩) (t:=⟨p+1,t',chs⟩) ha.head (uQ (s:=⟨p,st,chs⟩) hp) h2) r2⟩
  | @or_ a st k r b rest y e hp hb hr ihb ihr =>
    intro c p chs ha hl hx t ht
    obtain ⟨m,r2,rfl,rfl,hm1,hm2,htr,rfl,rfl⟩:=Bj hp
    simp only [List.length_cons,List.length_drop] at hl ht ihr
    have hid:settle p (a :: st) chs=some ⟨p,a :: st,chs⟩:=bV fun x q eq=>by
      have:=hx x q eq
      subst eq
      have:limitOf c (x :: q)=x.limit:=rfl
      omega
    have h1:=ha.tail
    have h2:=h1.tail
    have h3:=h2.tail
    have g1:=h1.head
    have g2:=h2.head
    have hx0:∀ (f:Option Exp) (x:Ch) (q:List Ch),((⟨a,p,p+3,p+3+m,f,st⟩:Ch) :: chs)=x :: q→x.limit≤x.end_:=fun f x q eq=>by
      cases eq
      cases f <;> simp only [Ch.limit] <;> omega
    have s1:step n c ⟨p,a :: st,chs⟩=some ⟨p+1,[],⟨a,p,p+3,p+3+m,none,st⟩ :: chs⟩:=by
      refine gF (i:=.zero 2) ha.head (t:=⟨p+1,[],⟨a,p,p+3,p+3+m,none,st⟩ :: chs⟩) ?_ (bV fun x q eq=>by cases eq; simp only; omega)
      unfold core begin_
      simp only
      rw [if_neg (by omega),show p+2=p+1+1 by omega,g2]
      simp only [Option.bind_some,jumpOf]
      rw [if_neg (by omega)]
    have s2:step n c ⟨p+1,[],⟨a,p,p+3,p+3+m,none,st⟩ :: chs⟩=some ⟨p+2,[.num (1,1)],⟨a,p,p+3,p+3+m,none,st⟩ :: chs⟩ :=
      gF (i:=.push (1,1)) g1 (t:=⟨p+2,[.num (1,1)],⟨a,p,p+3,p+3+m,none,st⟩ :: chs⟩) (uQ (s:=⟨p+1,[],⟨a,p,p+3,p+3+m,none,st⟩ :: chs⟩) (by unfold Vbdeam.plain; simp only; rw [if_pos (by decide +kernel)])) (bV fun x q eq=>by cases eq; simp only; omega)
    have s3:step n c ⟨p+2,[.num (1,1)],⟨a,p,p+3,p+3+m,none,st⟩ :: chs⟩=some ⟨p+3,[],⟨a,p,p+3,p+3+m,some (.num (1,1)),st⟩ :: chs⟩:=by
      refine gF (i:=.jump m) g2 (t:=⟨p+3,[],⟨a,p,p+3,p+3+m,some (.num (1,1)),st⟩ :: chs⟩) ?_ (bV fun x q eq=>by cases eq; simp only; omega)
      unfold core jump
      simp only
      rw [if_pos trivial]
    have lb:(r2.take (m - 1)).length=m - 1:=by rw [List.length_take]; omega
    obtain ⟨u,hu,ru⟩:=ihb c (p+3) (⟨a,p,p+3,p+3+m,some (.num (1,1)),st⟩ :: chs) (h3.take _) (by rw [lb]; simp only [limitOf,Ch.limit]; omega) (hx0 _) ⟨p+2+m,[y],⟨a,p,p+3,p+3+m,some (.num (1,1)),st⟩ :: chs⟩ (by rw [lb,show p+3+(m - 1)=p+2+m by omega]; exact bV fun x q eq=>by cases eq; simp only; omega)
    rw [bV (fun x q eq=>by cases eq; simp only; omega)] at hu
    cases hu
    obtain ⟨v,hv,rv⟩:=ihr c (p+3+m) chs (h3.drop m) (by omega) hx t (by rw [show p+3+m+(r2.length - m)=p+(r2.length+1+1+1) by omega]; exact ht)
    have s4:step n c ⟨p+2+m,[y],⟨a,p,p+3,p+3+m,some (.num (1,1)),st⟩ :: chs⟩=some v:=by
      have gt:c[p+2+m]?=some .truth:=by
        have:=h3 (m - 1) (by omega)
        rw [htr] at this
        rw [← this]
        congr 1
        omega
      refine gF (i:=.truth) gt (t:=⟨p+3+m,.or a y :: st,chs⟩) ?_ hv
      unfold core nine
      simp only
      rw [if_pos ⟨by unfold vp; simp only; rw [g1]; simp [isOne],by omega⟩]
    exact ⟨_,hid,.step s1 (.step s2 (.step s3 (ru.trans (.step s4 rv))))⟩
  | @and_ a st k r b rest y e hp hb hr ihb ihr =>
    intro c p chs ha hl hx t ht
    obtain ⟨h2k,hkl,hk2,hk1,hk0,rfl,rfl⟩:=yh hp
    simp only [List.length_cons,List.length_drop] at hl ht ihr
    have hid:settle p (a :: st) chs=some ⟨p,a :: st,chs⟩:=bV fun x q eq=>by
      have:=hx x q eq
      subst eq
      have:limitOf c (x :: q)=x.limit:=rfl
      omega
    have h1:=ha.tail
    have gj:c[p+k]?=some (.jump 1):=by
      have:=h1 (k - 1) (by omega)
      rw [hk1] at this
      rw [← this]
      congr 1
      omega
    have gz:c[p+1+k]?=some (.push (0,1)):=by
      have:=h1 k (by omega)
      rw [hk0] at this
      exact this
    have gt:c[p+1+(k - 2)]?=some .truth:=by
      have:=h1 (k - 2) (by omega)
      rw [hk2] at this
      exact this
    have s1:step n c ⟨p,a :: st,chs⟩=some ⟨p+1,[],⟨a,p,p+1+k,p+1+k+1,none,st⟩ :: chs⟩:=by
      refine gF (i:=.zero k) ha.head (t:=⟨p+1,[],⟨a,p,p+1+k,p+1+k+1,none,st⟩ :: chs⟩) ?_ (bV fun x q eq=>by cases eq; simp only; omega)
      unfold core begin_
      simp only
      rw [if_neg (by omega),gj]
      simp only [Option.bind_some,jumpOf]
      rw [if_neg (by omega)]
    have lb:(r.take (k - 2)).length=k - 2:=by rw [List.length_take]; omega
    obtain ⟨u,hu,ru⟩:=ihb c (p+1) (⟨a,p,p+1+k,p+1+k+1,none,st⟩ :: chs) (h1.take _) (by rw [lb]; simp only [limitOf,Ch.limit]; omega) (fun x q eq=>by cases eq; simp only [Ch.limit]; omega) ⟨p+1+(k - 2),[y],⟨a,p,p+1+k,p+1+k+1,none,st⟩ :: chs⟩ (by rw [lb]; exact bV fun x q eq=>by cases eq; simp only; omega)
    rw [bV (fun x q eq=>by cases eq; simp only; omega)] at hu
    cases hu
    obtain ⟨v,hv,rv⟩:=ihr c (p+1+k+1) chs (by rw [show p+1+k+1=p+1+(k+1) by omega]; exact h1.drop (k+1)) (by omega) hx t (by rw [show p+1+k+1+(r.length - (k+1))=p+(r.length+1) by omega]; exact ht)
    have s4:step n c ⟨p+1+(k - 2),[y],⟨a,p,p+1+k,p+1+k+1,none,st⟩ :: chs⟩=some v:=by
      refine gF (i:=.truth) gt (t:=⟨p+1+k+1,.and a y :: st,chs⟩) ?_ hv
      unfold core nine
      simp only
      rw [if_pos ⟨by unfold isAnd; simp only; rw [gz]; simp [isZeroIns],by omega⟩]
    exact ⟨_,hid,.step s1 (ru.trans (.step s4 rv))⟩
  | @if_ a st k r x y rest u' v' e hp hx' hy hr ihx ihy ihr =>
    intro c p chs ha hl hx t ht
    obtain ⟨m,hk0,hj,hkl,rfl,rfl,rfl⟩:=BL hp
    simp only [List.length_cons,List.length_drop] at hl ht ihr
    have hid:settle p (a :: st) chs=some ⟨p,a :: st,chs⟩:=bV fun x q eq=>by
      have:=hx x q eq
      subst eq
      have:limitOf c (x :: q)=x.limit:=rfl
      omega
    have h1:=ha.tail
    have gj:c[p+k]?=some (.jump m):=by
      have:=h1 (k - 1) (by omega)
      rw [hj] at this
      rw [← this]
      congr 1
      omega
    have s1:step n c ⟨p,a :: st,chs⟩=some ⟨p+1,[],⟨a,p,p+1+k,p+1+k+m,none,st⟩ :: chs⟩:=by
      refine gF (i:=.zero k) ha.head (t:=⟨p+1,[],⟨a,p,p+1+k,p+1+k+m,none,st⟩ :: chs⟩) ?_ (bV fun x q eq=>by cases eq; simp only; omega)
      unfold core begin_
      simp only
      rw [if_neg (by omega),gj]
      simp only [Option.bind_some,jumpOf]
      rw [if_neg (by omega)]
    have lx:(r.take (k - 1)).length=k - 1:=by rw [List.length_take]; omega
    have ly:((r.drop k).take m).length=m:=by rw [List.length_take,List.length_drop]; omega
    obtain ⟨u,hu,ru⟩:=ihx c (p+1) (⟨a,p,p+1+k,p+1+k+m,none,st⟩ :: chs) (h1.take _) (by rw [lx]; simp only [limitOf,Ch.limit]; omega) (fun x q eq=>by cases eq; simp only [Ch.limit]; omega) ⟨p+k,[u'],⟨a,p,p+1+k,p+1+k+m,none,st⟩ :: chs⟩ (by rw [lx,show p+1+(k - 1)=p+k by omega]; exact bV fun x q eq=>by cases eq; simp only; omega)
    rw [bV (fun x q eq=>by cases eq; simp only; omega)] at hu
    cases hu
    obtain ⟨v,hv,rv⟩:=ihr c (p+1+k+m) chs (by rw [show p+1+k+m=p+1+(k+m) by omega]; exact h1.drop (k+m)) (by omega) hx t (by rw [show p+1+k+m+(r.length - (k+m))=p+(r.length+1) by omega]; exact ht)
    obtain ⟨z,hz,rz⟩:=ihy c (p+1+k) (⟨a,p,p+1+k,p+1+k+m,some u',st⟩ :: chs) ((h1.drop k).take m) (by rw [ly]; simp only [limitOf,Ch.limit]; omega) (fun x q eq=>by cases eq; simp only [Ch.limit]; omega) v (by rw [ly]; unfold settle; simp only [if_true]; exact hv)
    have s4:step n c ⟨p+k,[u'],⟨a,p,p+1+k,p+1+k+m,none,st⟩ :: chs⟩=some z:=by
      refine gF (i:=.jump m) gj (t:=⟨p+1+k,[],⟨a,p,p+1+k,p+1+k+m,some u',st⟩ :: chs⟩) ?_ hz
      unfold core jump
      simp only
      rw [if_pos (by omega),show p+k+1=p+1+k by omega]
    exact ⟨_,hid,.step s1 (ru.trans (.step s4 (rz.trans rv)))⟩
end MX
end
section
set_option linter.all false
namespace MX
open Vbdeaa (Exp Exps Ins Code)
open Vbdeam (plain orParts andParts ifParts jumpOf isOne isZeroIns isTruthIns parse)
theorem Fi {n:Nat} {c:Code} {s t u:MS} (h:Reach n c s t) (g:Reach n c s u) (ht:step n c t=none) (hu:step n c u=none):t=u:=by
  induction h with
  | refl s =>
    cases g with
    | refl=>rfl
    | step a _=>rw [ht] at a; cases a
  | step a _ ih =>
    cases g with
    | refl=>rw [hu] at a; cases a
    | step b g'=>rw [a] at b; cases b; exact ih g' ht
theorem yt {n:Nat} {c:Code} {e:Exp}:step n c ⟨c.length,[e],[]⟩=none:=by
  unfold step
  simp
theorem Oq (b:Code):At b 0 b:=fun j _=>by rw [Nat.zero_add]
theorem kJ {n:Nat} {b:Code} {st:List Exp} {e:Exp} (h:Run n b st e):Reach n b ⟨0,st,[]⟩ ⟨b.length,[e],[]⟩:=by
  obtain ⟨s,hs,r⟩:=sim h b 0 [] (Oq b) (by simp [limitOf]) (fun x r z=>by cases z) ⟨b.length,[e],[]⟩ (by rw [Nat.zero_add]; rfl)
  cases hs
  exact r
theorem ue {n:Nat} {b:Code} {st:List Exp} {e e':Exp} (h:Run n b st e) (g:Run n b st e'):e=e':=by
  have:=Fi (kJ h) (kJ g) yt yt
  injection this with _ h2 _
  injection h2
theorem Fe {n:Nat} {c:Code} {st:List Exp} {e:Exp} (h:Run n c st e):∀ k,c.length < k→parse n k c st=some e:=by
  induction h with
  | done e =>
    intro k hk
    obtain ⟨k,rfl⟩:∃ j,k=j+1:=⟨k - 1,by omega⟩
    rfl
  | @plain i r st t e hp hr ih =>
    intro k hk
    obtain ⟨k,rfl⟩:∃ j,k=j+1:=⟨k - 1,by omega⟩
    rw [qR (fun m z=>by rw [z,gJ] at hp; cases hp),hp]
    exact ih k (by simp at hk; omega)
  | @or_ a st m r b rest y e hp hb hr ihb ihr =>
    intro k hk
    obtain ⟨k,rfl⟩:∃ j,k=j+1:=⟨k - 1,by omega⟩
    have hl:b.length < k∧rest.length < k:=by
      obtain ⟨m',r2,rfl,_,h1,h2,_,rfl,rfl⟩:=Bj hp
      simp only [List.length_cons,List.length_take,List.length_drop] at hk ⊢
      omega
    rw [parse,hp]
    simp only [ihb k hl.1,Option.bind_some,ihr k hl.2]
  | @and_ a st m r b rest y e hp hb hr ihb ihr =>
    intro k hk
    obtain ⟨k,rfl⟩:∃ j,k=j+1:=⟨k - 1,by omega⟩
    have hl:b.length < k∧rest.length < k:=by
      obtain ⟨h1,h2,_,_,_,rfl,rfl⟩:=yh hp
      simp only [List.length_cons,List.length_take,List.length_drop] at hk ⊢
      omega
    rw [parse]
    split
    · rename_i e' h1
      split at h1
      · rename_i b' rest' hp'
        obtain ⟨y',hy,he⟩:=Option.bind_eq_some_iff.mp h1
        rw [ue (Run.or_ hp' (fZ hy) (fZ he)) (Run.and_ hp hb hr)]
      · cases h1
    · rw [hp]
      simp only [ihb k hl.1,Option.bind_some,ihr k hl.2]
  | @if_ a st m r x y rest u v e hp hx hy hr ihx ihy ihr =>
    intro k hk
    obtain ⟨k,rfl⟩:∃ j,k=j+1:=⟨k - 1,by omega⟩
    have hl:x.length < k∧y.length < k∧rest.length < k:=by
      obtain ⟨m',h1,h2,h3,rfl,rfl,rfl⟩:=BL hp
      simp only [List.length_cons,List.length_take,List.length_drop] at hk ⊢
      omega
    rw [parse]
    split
    · rename_i e' h1
      split at h1
      · rename_i b' rest' hp'
        obtain ⟨y',hy',he⟩:=Option.bind_eq_some_iff.mp h1
        rw [ue (Run.or_ hp' (fZ hy') (fZ he)) (Run.if_ hp hx hy hr)]
      · cases h1
    · split
      · rename_i e' h1
        split at h1
        · rename_i b' rest' hp'
          obtain ⟨y',hy',he⟩:=Option.bind_eq_some_iff.mp h1
          rw [ue (Run.and_ hp' (fZ hy') (fZ he)) (Run.if_ hp hx hy hr)]
        · cases h1
      · rw [hp]
        simp only [ihx k hl.1,Option.bind_some,ihy k hl.2.1,ihr k hl.2.2]
theorem jH {n:Nat} {c:Code} {e:Exp}:Vbdeam.tree n c=some e↔Run n c [] e:=⟨fun h=>fZ h,fun h=>Fe h _ (Nat.lt_succ_self _)⟩
def Chain (c:Code):Nat→List Ch→Prop
  | p,[]=>p≤c.length
  | p,x :: r=>x.start < p∧(match x.first with
    | none=>p < x.middle
    | some _=>x.middle≤p∧p≤x.end_)∧x.start < x.middle∧x.middle≤x.end_∧c[x.middle - 1]?=some (.jump (x.end_ - x.middle))∧Chain c x.end_ r
structure WF (c:Code) (s:MS):Prop where
  chain:Chain c s.pos s.chs
  settled:∀ x r,s.chs=x :: r→s.pos≠x.end_
theorem Chain.le {c:Code}:∀ {chs:List Ch} {p:Nat},Chain c p chs→p≤c.length
  | [],p,h=>h
  | x :: r,p,h=>by
    obtain ⟨h1,h2,h3,h4,h5,h6⟩:=h
    have:=Chain.le h6
    cases hf:x.first with
    | none=>rw [hf] at h2; simp only at h2; omega
    | some f=>rw [hf] at h2; simp only at h2; omega
theorem Chain.limit {c:Code} {chs:List Ch} {p:Nat} (h:Chain c p chs):p≤limitOf c chs∧limitOf c chs≤c.length:=by
  cases chs with
  | nil=>exact ⟨h,Nat.le_refl _⟩
  | cons x r =>
    obtain ⟨h1,h2,h3,h4,h5,h6⟩:=h
    have:=Chain.le h6
    cases hf:x.first with
    | none=>rw [hf] at h2; simp only [limitOf,Ch.limit,hf] at h2 ⊢; omega
    | some f=>rw [hf] at h2; simp only [limitOf,Ch.limit,hf] at h2 ⊢; omega
theorem rR (c:Code):WF c ⟨0,[],[]⟩:=⟨Nat.zero_le _,fun x r z=>by cases z⟩
theorem pH {c:Code}:∀ {chs:List Ch} {p:Nat} {cur:List Exp} {t:MS},Chain c p chs→settle p cur chs=some t→WF c t∧t.pos=p
  | [],p,cur,t,h,e=>by cases e; exact ⟨⟨h,fun x r z=>by cases z⟩,rfl⟩
  | x :: r,p,cur,t,h,e=>by
    unfold settle at e
    split at e
    · rename_i hp
      split at e
      · rename_i e1 f hf
        have h6:=h.2.2.2.2.2
        rw [← hp] at h6
        exact pH h6 e
      · cases e
    · rename_i hp
      cases e
      exact ⟨⟨h,fun y q z=>by cases z; exact hp⟩,rfl⟩
theorem jn {n:Nat} {c:Code} {s t:MS} {i:Ins} (w:WF c s) (hi:c[s.pos]?=some i) (h:core n c i s=some t):Chain c t.pos t.chs:=by
  have hlt:s.pos < c.length:=(List.getElem?_eq_some_iff.mp hi).1
  have plainCase:∀ st,(∀ m,i≠.jump m)→t=⟨s.pos+1,st,s.chs⟩→Chain c t.pos t.chs:=by
    rintro st hj rfl
    have hc:=w.chain
    show Chain c (s.pos+1) s.chs
    cases hs:s.chs with
    | nil=>exact hlt
    | cons x r =>
      rw [hs] at hc
      obtain ⟨h1,h2,h3,h4,h5,h6⟩:=hc
      have ne:=w.settled x r hs
      refine ⟨by omega,?_,h3,h4,h5,h6⟩
      cases hf:x.first with
      | none =>
        rw [hf] at h2
        simp only at h2 ⊢
        by_cases q:s.pos+1=x.middle
        · rw [show x.middle - 1=s.pos by omega,hi] at h5
          exact absurd (Option.some.inj h5) (hj _)
        · omega
      | some f=>rw [hf] at h2; simp only at h2 ⊢; omega
  cases i with
  | zero k =>
    unfold core begin_ at h
    simp only at h
    split at h
    · cases h
    · rename_i a st hcur
      split at h
      · cases h
      · rename_i m hm
        split at h
        · cases h
        · rename_i hl
          cases h
          split at hm
          · cases hm
          · have hj:=lE hm
            have hk:k≠0:=fun z=>by
              subst z
              rw [Nat.add_zero,hi] at hj
              cases hj
            refine ⟨Nat.lt_succ_self _,by simp only; omega,by simp only; omega,by simp only; omega,?_,?_⟩
            · simp only
              rw [show s.pos+1+k - 1=s.pos+k by omega,hj,show s.pos+1+k+m - (s.pos+1+k)=m by omega]
            · have hc:=w.chain
              simp only
              cases hs:s.chs with
              | nil=>rw [hs] at hl; simp only [limitOf] at hl; show _≤c.length; omega
              | cons x r =>
                rw [hs] at hc hl
                obtain ⟨h1,h2,h3,h4,h5,h6⟩:=hc
                refine ⟨by omega,?_,h3,h4,h5,h6⟩
                simp only [limitOf,Ch.limit] at hl
                cases hf:x.first with
                | none=>rw [hf] at h2 hl; simp only at h2 hl ⊢; omega
                | some f=>rw [hf] at h2 hl; simp only at h2 hl ⊢; omega
  | jump k =>
    unfold core jump at h
    simp only at h
    split at h
    · rename_i e x r hcur hs
      split at h
      · rename_i hp
        cases h
        have hc:=w.chain
        rw [hs] at hc
        obtain ⟨h1,h2,h3,h4,h5,h6⟩:=hc
        exact ⟨by simp only; omega,by simp only; omega,h3,h4,h5,h6⟩
      · cases h
    · cases h
  | truth =>
    unfold core nine at h
    simp only at h
    split at h
    · rename_i e x r hcur hs
      have hc:=w.chain
      rw [hs] at hc
      have h6:=hc.2.2.2.2.2
      split at h
      · split at h
        · cases h; exact h6
        · cases h
      · split at h
        · cases h; exact h6
        · cases h
    · cases h
  | push q=>unfold core at h; simp only at h; obtain ⟨st,_,e⟩:=Option.map_eq_some_iff.mp h; exact plainCase st (fun m z=>by cases z) e.symm
  | arg q=>unfold core at h; simp only at h; obtain ⟨st,_,e⟩:=Option.map_eq_some_iff.mp h; exact plainCase st (fun m z=>by cases z) e.symm
  | var q=>unfold core at h; simp only at h; obtain ⟨st,_,e⟩:=Option.map_eq_some_iff.mp h; exact plainCase st (fun m z=>by cases z) e.symm
  | un q=>unfold core at h; simp only at h; obtain ⟨st,_,e⟩:=Option.map_eq_some_iff.mp h; exact plainCase st (fun m z=>by cases z) e.symm
  | bin q=>unfold core at h; simp only at h; obtain ⟨st,_,e⟩:=Option.map_eq_some_iff.mp h; exact plainCase st (fun m z=>by cases z) e.symm
  | table q=>unfold core at h; simp only at h; obtain ⟨st,_,e⟩:=Option.map_eq_some_iff.mp h; exact plainCase st (fun m z=>by cases z) e.symm
  | call q q'=>unfold core at h; simp only at h; obtain ⟨st,_,e⟩:=Option.map_eq_some_iff.mp h; exact plainCase st (fun m z=>by cases z) e.symm
  | best q=>unfold core at h; simp only at h; obtain ⟨st,_,e⟩:=Option.map_eq_some_iff.mp h; exact plainCase st (fun m z=>by cases z) e.symm
theorem Ly {n:Nat} {c:Code} {s t:MS} (w:WF c s) (h:step n c s=some t):WF c t:=by
  unfold step at h
  split at h
  · cases h
  · rename_i i hi
    obtain ⟨u,hu,ht⟩:=Option.bind_eq_some_iff.mp h
    exact (pH (jn w hi hu) ht).1
theorem P0 {c:Code} {s:MS} (w:WF c s) (h:¬ s.pos < c.length):s.pos=c.length∧s.chs=[]:=by
  have hc:=w.chain
  have hle:=hc.le
  refine ⟨by omega,?_⟩
  cases hs:s.chs with
  | nil=>rfl
  | cons x r =>
    rw [hs] at hc
    obtain ⟨h1,h2,h3,h4,h5,h6⟩:=hc
    have:=h6.le
    have ne:=w.settled x r hs
    cases hf:x.first with
    | none=>rw [hf] at h2; simp only at h2; omega
    | some f=>rw [hf] at h2; simp only at h2; omega
end MX
end
section
set_option linter.all false
namespace MX
open Vbdeaa (Exp Exps Ins Code)
open Vbdeam (plain orParts andParts ifParts jumpOf isOne isZeroIns isTruthIns parse)
def seg (c:Code) (p q:Nat):Code:=(c.drop p).take (q - p)
theorem nu (c:Code) (p:Nat):seg c p p=[]:=by unfold seg; simp
theorem rZ {c:Code} {p q j:Nat}:(seg c p q)[j]?=if j < q - p then c[p+j]? else none:=by
  unfold seg
  rw [List.getElem?_take,List.getElem?_drop]
theorem wV {c:Code} {p q:Nat} (h:q≤c.length):(seg c p q).length=q - p:=by
  unfold seg
  rw [List.length_take,List.length_drop]
  omega
theorem iR {c:Code} {p q:Nat} {i:Ins} (hi:c[p]?=some i) (h:p < q):seg c p q=i :: seg c (p+1) q:=by
  unfold seg
  have hlt:=(List.getElem?_eq_some_iff.mp hi)
  obtain ⟨h1,h2⟩:=hlt
  rw [List.drop_eq_getElem_cons h1,h2,show q - p=q - (p+1)+1 by omega,List.take_succ_cons]
theorem nq {c:Code} {p q k:Nat} (h:p+k≤q):(seg c p q).take k=seg c p (p+k):=by
  unfold seg
  rw [List.take_take]
  congr 1
  omega
theorem nG {c:Code} {p q k:Nat}:(seg c p q).drop k=seg c (p+k) q:=by
  unfold seg
  rw [List.drop_take,List.drop_drop]
  congr 1
  omega
def U4 (n:Nat) (c:Code) (x:Ch) (G:List Exp→Prop) (f:Exp) (pos:Nat) (cur:List Exp):Prop :=
  (vp c x=true∧pos+1≤x.end_∧c[x.end_ - 1]?=some .truth∧∃ y,Run n (seg c pos (x.end_ - 1)) cur y∧G (.or x.cond y :: x.below)) ∨
  (pos≤x.end_∧∃ y,Run n (seg c pos x.end_) cur y∧G (.cond x.cond f y :: x.below))
def Good (n:Nat) (c:Code) (e:Exp):List Ch→Nat→List Exp→Prop
  | [],pos,cur=>pos≤c.length∧Run n (seg c pos c.length) cur e
  | x :: r,pos,cur=>match x.first with
    | some f=>U4 n c x (fun st=>Good n c e r x.end_ st) f pos cur
    | none=>(isAnd c x=true∧pos+2≤x.middle∧c[x.middle - 2]?=some .truth∧∃ y,Run n (seg c pos (x.middle - 2)) cur y∧Good n c e r x.end_ (.and x.cond y :: x.below)) ∨
      (pos+1≤x.middle∧∃ u,Run n (seg c pos (x.middle - 1)) cur u∧U4 n c x (fun st=>Good n c e r x.end_ st) u x.middle [])
theorem k_ {n:Nat} {c:Code} {e:Exp} {chs:List Ch} {p p2:Nat} {st st2:List Exp} (hp:p≤p2) (hc:Chain c p2 chs) (hr:∀ q z,p2≤q→q≤c.length→Run n (seg c p2 q) st2 z→Run n (seg c p q) st z) (g:Good n c e chs p2 st2):Good n c e chs p st:=by
  cases chs with
  | nil=>exact ⟨Nat.le_trans hp g.1,hr _ _ g.1 (Nat.le_refl _) g.2⟩
  | cons x r =>
    obtain ⟨h1,h2,h3,h4,h5,h6⟩:=hc
    have hle:=h6.le
    unfold Good at g ⊢
    cases hf:x.first with
    | none =>
      rw [hf] at g
      simp only at g ⊢
      rcases g with ⟨a1,a2,a3,y,a4,a5⟩ | ⟨a1,u,a2,a3⟩
      · exact .inl ⟨a1,by omega,a3,y,hr _ _ (by omega) (by omega) a4,a5⟩
      · exact .inr ⟨by omega,u,hr _ _ (by omega) (by omega) a2,a3⟩
    | some f =>
      rw [hf] at g
      simp only at g ⊢
      rcases g with ⟨a1,a2,a3,y,a4,a5⟩ | ⟨a1,y,a2,a3⟩
      · exact .inl ⟨a1,by omega,a3,y,hr _ _ (by omega) (by omega) a4,a5⟩
      · exact .inr ⟨by omega,y,hr _ _ (by omega) (by omega) a2,a3⟩
theorem qO {n:Nat} {c:Code} {e:Exp}:∀ {chs:List Ch} {p:Nat} {cur:List Exp} {t:MS},settle p cur chs=some t→Good n c e t.chs t.pos t.cur→Good n c e chs p cur
  | [],p,cur,t,h,g=>by cases h; exact g
  | x :: r,p,cur,t,h,g=>by
    unfold settle at h
    split at h
    · rename_i hp
      split at h
      · rename_i e1 f hf
        have:=qO h g
        unfold Good
        rw [hf]
        simp only
        refine .inr ⟨Nat.le_of_eq hp,e1,by rw [hp,nu]; exact .done e1,?_⟩
        rw [← hp]
        exact this
      · cases h
    · cases h
      exact g
theorem Hf {n:Nat} {c:Code} {e:Exp} {s t:MS} {i:Ins} (w:WF c s) (hi:c[s.pos]?=some i) (h:core n c i s=some t) (g:Good n c e t.chs t.pos t.cur):Good n c e s.chs s.pos s.cur:=by
  have hct:=jn w hi h
  have plainCase:∀ st,plain n i s.cur=some st→t=⟨s.pos+1,st,s.chs⟩→Good n c e s.chs s.pos s.cur:=by
    rintro st hst rfl
    refine k_ (Nat.le_succ _) hct (fun q z hq _ hr=>?_) g
    rw [iR hi (Nat.lt_of_succ_le hq)]
    exact .plain hst hr
  cases i with
  | zero k =>
    unfold core begin_ at h
    simp only at h
    split at h
    · cases h
    · rename_i a st hcur
      split at h
      · cases h
      · rename_i m hm
        split at h
        · cases h
        · rename_i hl
          cases h
          split at hm
          · cases hm
          · have hj:=lE hm
            have hk:k≠0:=fun z=>by
              subst z
              rw [Nat.add_zero,hi] at hj
              cases hj
            have hc6:Chain c (s.pos+1+k+m) s.chs:=hct.2.2.2.2.2
            rw [hcur]
            unfold Good at g
            simp only at g
            have gj:∀ q,s.pos+1+k≤q→(seg c (s.pos+1) q)[k - 1]?=some (.jump m):=fun q hq=>by
              rw [rZ,if_pos (by omega),show s.pos+1+(k - 1)=s.pos+k by omega,hj]
            rcases g with ⟨a1,a2,a3,y,a4,a5⟩ | ⟨a1,u,a2,a3⟩
            · unfold isAnd at a1
              simp only [Bool.and_eq_true,decide_eq_true_eq] at a1
              obtain ⟨b1,b2⟩:=a1
              obtain ⟨j,hjz,hz⟩:=any_eq b2
              rw [isZero_eq hz] at hjz
              have hm1:m=1:=by omega
              subst hm1
              refine k_ (by omega) hc6 (fun q z hq hqc hr=>?_) a5
              rw [iR hi (by omega)]
              have ha:=Ro (k:=k) (r:=seg c (s.pos+1) q) (by omega) (by rw [wV hqc]; omega) (by rw [rZ,if_pos (by omega),← a3]; congr 1; omega) (gj q (by omega)) (by rw [rZ,if_pos (by omega),hjz])
              rw [nq (by omega),nG] at ha
              refine .and_ (y:=y) ha ?_ ?_
              · rw [show s.pos+1+(k - 2)=s.pos+1+k - 2 by omega]
                exact a4
              · exact hr
            · rcases a3 with ⟨b1,b2,b3,y,b4,b5⟩ | ⟨b1,y,b2,b3⟩
              · unfold vp at b1
                simp only [Bool.and_eq_true,decide_eq_true_eq] at b1
                obtain ⟨c1,c2⟩:=b1
                obtain ⟨j,hj1,ho⟩:=any_eq c2
                rw [zq ho] at hj1
                have hk2:k=2:=by omega
                subst hk2
                simp only at b2 b3 b4 b5
                refine k_ (by omega) hc6 (fun q z hq hqc hr=>?_) b5
                rw [iR hi (by omega),iR hj1 (by omega),iR (i:=.jump m) (by rw [← hj]) (by omega)]
                have ho2:=R8 (m:=m) (r2:=seg c (s.pos+1+1+1) q) (by omega) (by rw [wV hqc]; omega) (by rw [rZ,if_pos (by omega),← b3]; congr 1; omega)
                rw [nq (by omega),nG] at ho2
                refine .or_ (y:=y) ho2 ?_ ?_
                · rw [show s.pos+1+1+1+(m - 1)=s.pos+1+2+m - 1 by omega]
                  exact b4
                · rw [show s.pos+1+1+1+m=s.pos+1+2+m by omega]
                  exact hr
              · simp only at b1 b2 b3
                refine k_ (by omega) hc6 (fun q z hq hqc hr=>?_) b3
                rw [iR hi (by omega)]
                have hi2:=Ss (k:=k) (m:=m) (r:=seg c (s.pos+1) q) hk (gj q (by omega)) (by rw [wV hqc]; omega)
                rw [nq (by omega),nG,nq (by omega),nG] at hi2
                refine .if_ (u:=u) (v:=y) hi2 ?_ b2 ?_
                · rw [show s.pos+1+(k - 1)=s.pos+1+k - 1 by omega]
                  exact a2
                · rw [show s.pos+1+(k+m)=s.pos+1+k+m by omega]
                  exact hr
  | jump k =>
    unfold core jump at h
    simp only at h
    split at h
    · rename_i e1 x r hcur hs
      split at h
      · rename_i hp
        cases h
        have hc:=w.chain
        rw [hs] at hc
        obtain ⟨h1,h2,h3,h4,h5,h6⟩:=hc
        rw [hs,hcur]
        unfold Good at g ⊢
        simp only at g
        cases hf:x.first with
        | some f=>rw [hf] at h2; simp only at h2; omega
        | none =>
          simp only
          refine .inr ⟨Nat.le_of_eq hp,e1,by rw [show x.middle - 1=s.pos by omega,nu]; exact .done e1,?_⟩
          rw [← hp]
          rcases g with ⟨a1,a2⟩ | g
          · exact .inl ⟨a1,a2⟩
          · exact .inr g
      · cases h
    · cases h
  | truth =>
    unfold core nine at h
    simp only at h
    split at h
    · rename_i e1 x r hcur hs
      rw [hs,hcur]
      unfold Good
      split at h
      · rename_i hf
        split at h
        · rename_i hc
          cases h
          rw [hf]
          simp only
          refine .inl ⟨hc.1,Nat.le_of_eq hc.2,by rw [← hc.2]; exact hi,e1,by rw [show x.middle - 2=s.pos by omega,nu]; exact .done e1,g⟩
        · cases h
      · rename_i f hf
        split at h
        · rename_i hc
          cases h
          rw [hf]
          simp only
          refine .inl ⟨hc.1,Nat.le_of_eq hc.2,by rw [← hc.2]; exact hi,e1,by rw [show x.end_ - 1=s.pos by omega,nu]; exact .done e1,g⟩
        · cases h
    · cases h
  | push q=>unfold core at h; simp only at h; obtain ⟨st,e1,e2⟩:=Option.map_eq_some_iff.mp h; exact plainCase st e1 e2.symm
  | arg q=>unfold core at h; simp only at h; obtain ⟨st,e1,e2⟩:=Option.map_eq_some_iff.mp h; exact plainCase st e1 e2.symm
  | var q=>unfold core at h; simp only at h; obtain ⟨st,e1,e2⟩:=Option.map_eq_some_iff.mp h; exact plainCase st e1 e2.symm
  | un q=>unfold core at h; simp only at h; obtain ⟨st,e1,e2⟩:=Option.map_eq_some_iff.mp h; exact plainCase st e1 e2.symm
  | bin q=>unfold core at h; simp only at h; obtain ⟨st,e1,e2⟩:=Option.map_eq_some_iff.mp h; exact plainCase st e1 e2.symm
  | table q=>unfold core at h; simp only at h; obtain ⟨st,e1,e2⟩:=Option.map_eq_some_iff.mp h; exact plainCase st e1 e2.symm
  | call q q'=>unfold core at h; simp only at h; obtain ⟨st,e1,e2⟩:=Option.map_eq_some_iff.mp h; exact plainCase st e1 e2.symm
  | best q=>unfold core at h; simp only at h; obtain ⟨st,e1,e2⟩:=Option.map_eq_some_iff.mp h; exact plainCase st e1 e2.symm
theorem KZ {n:Nat} {c:Code} {s t:MS} {i:Ins} (w:WF c s) (hi:c[s.pos]?=some i) (h:core n c i s=some t):s.pos < t.pos:=by
  cases i with
  | zero k =>
    unfold core begin_ at h
    simp only at h
    split at h
    · cases h
    · split at h
      · cases h
      · split at h
        · cases h
        · cases h; exact Nat.lt_succ_self _
  | jump k =>
    unfold core jump at h
    simp only at h
    split at h
    · split at h
      · cases h; exact Nat.lt_succ_self _
      · cases h
    · cases h
  | truth =>
    unfold core nine at h
    simp only at h
    split at h
    · rename_i e1 x r hcur hs
      have hc:=w.chain
      rw [hs] at hc
      obtain ⟨h1,h2,h3,h4,h5,h6⟩:=hc
      split at h
      · split at h
        · rename_i hc; cases h; show s.pos < x.end_; omega
        · cases h
      · split at h
        · rename_i hc; cases h; show s.pos < x.end_; omega
        · cases h
    · cases h
  | push q=>unfold core at h; simp only at h; obtain ⟨st,e1,e2⟩:=Option.map_eq_some_iff.mp h; cases e2; exact Nat.lt_succ_self _
  | arg q=>unfold core at h; simp only at h; obtain ⟨st,e1,e2⟩:=Option.map_eq_some_iff.mp h; cases e2; exact Nat.lt_succ_self _
  | var q=>unfold core at h; simp only at h; obtain ⟨st,e1,e2⟩:=Option.map_eq_some_iff.mp h; cases e2; exact Nat.lt_succ_self _
  | un q=>unfold core at h; simp only at h; obtain ⟨st,e1,e2⟩:=Option.map_eq_some_iff.mp h; cases e2; exact Nat.lt_succ_self _
  | bin q=>unfold core at h; simp only at h; obtain ⟨st,e1,e2⟩:=Option.map_eq_some_iff.mp h; cases e2; exact Nat.lt_succ_self _
  | table q=>unfold core at h; simp only at h; obtain ⟨st,e1,e2⟩:=Option.map_eq_some_iff.mp h; cases e2; exact Nat.lt_succ_self _
  | call q q'=>unfold core at h; simp only at h; obtain ⟨st,e1,e2⟩:=Option.map_eq_some_iff.mp h; cases e2; exact Nat.lt_succ_self _
  | best q=>unfold core at h; simp only at h; obtain ⟨st,e1,e2⟩:=Option.map_eq_some_iff.mp h; cases e2; exact Nat.lt_succ_self _
theorem jb {n:Nat} {c:Code} {s t:MS} (w:WF c s) (h:step n c s=some t):s.pos < t.pos∧WF c t∧∀ e,Good n c e t.chs t.pos t.cur→Good n c e s.chs s.pos s.cur:=by
  unfold step at h
  split at h
  · cases h
  · rename_i i hi
    obtain ⟨u,hu,ht⟩:=Option.bind_eq_some_iff.mp h
    obtain ⟨hw,hp⟩:=pH (jn w hi hu) ht
    exact ⟨by rw [hp]; exact KZ w hi hu,hw,fun e g=>Hf w hi hu (qO ht g)⟩
def only:List Exp→Option Exp
  | [e]=>some e
  | _=>none
def lK (n:Nat) (c:Code):Nat→MS→Option Exp
  | 0,_=>none
  | k+1,s=>if s.pos < c.length then (step n c s).bind (lK n c k) else only s.cur
theorem qW {n:Nat} {c:Code}:∀ (k k':Nat) (s:MS),WF c s→c.length - s.pos < k→c.length - s.pos < k'→lK n c k s=lK n c k' s
  | 0,_,s,w,h,_=>by omega
  | _+1,0,s,w,_,h=>by omega
  | k+1,k'+1,s,w,h,h'=>by
    unfold lK
    by_cases hp:s.pos < c.length
    · rw [if_pos hp,if_pos hp]
      cases hs:step n c s with
      | none=>rfl
      | some t =>
        obtain ⟨h1,h2,_⟩:=jb w hs
        exact qW k k' t h2 (by omega) (by omega)
    · rw [if_neg hp,if_neg hp]
theorem v8 {n:Nat} {c:Code}:∀ (k:Nat) (s:MS) (e:Exp),WF c s→lK n c k s=some e→Good n c e s.chs s.pos s.cur
  | 0,s,e,w,h=>by cases h
  | k+1,s,e,w,h=>by
    unfold lK at h
    by_cases hp:s.pos < c.length
    · rw [if_pos hp] at h
      obtain ⟨t,ht,he⟩:=Option.bind_eq_some_iff.mp h
      obtain ⟨_,h2,h3⟩:=jb w ht
      exact h3 e (v8 k t e h2 he)
    · rw [if_neg hp] at h
      obtain ⟨h1,h2⟩:=P0 w hp
      rw [h2,h1]
      unfold only at h
      split at h
      · rename_i e1 hcur
        cases h
        rw [hcur]
        exact ⟨Nat.le_refl _,by rw [nu]; exact .done e⟩
      · cases h
theorem Ba {n:Nat} {c:Code} {s t:MS} (h:Reach n c s t):∀ {e:Exp} {k:Nat},WF c s→t=⟨c.length,[e],[]⟩→c.length - s.pos < k→lK n c k s=some e:=by
  induction h with
  | refl s =>
    intro e k w ht hk
    subst ht
    obtain ⟨k,rfl⟩:∃ j,k=j+1:=⟨k - 1,by omega⟩
    unfold lK
    rw [if_neg (Nat.lt_irrefl _)]
    rfl
  | @step s u t a r ih =>
    intro e k w ht hk
    obtain ⟨k,rfl⟩:∃ j,k=j+1:=⟨k - 1,by omega⟩
    obtain ⟨h1,h2,_⟩:=jb w a
    have hp:s.pos < c.length:=by
      unfold MX.step at a
      split at a
      · cases a
      · rename_i i hi
        exact (List.getElem?_eq_some_iff.mp hi).1
    unfold lK
    rw [if_pos hp,a]
    exact ih h2 ht (by omega)
theorem Gh {n:Nat} {c:Code}:lK n c (c.length+1) ⟨0,[],[]⟩=Vbdeam.tree n c:=by
  cases h:Vbdeam.tree n c with
  | some e=>exact Ba (kJ (jH.mp h)) (rR c) rfl (by simp)
  | none =>
    cases g:lK n c (c.length+1) ⟨0,[],[]⟩ with
    | none=>rfl
    | some e =>
      have:=v8 _ _ _ (rR c) g
      have r:Run n (seg c 0 c.length) [] e:=this.2
      have hs:seg c 0 c.length=c:=by unfold seg; simp
      rw [hs] at r
      rw [jH.mpr r] at h
      cases h
end MX
end
section
set_option linter.all false
namespace MX
open Vbdeaa (Exp Exps Ins Code)
open Vbdeam (plain orParts andParts ifParts jumpOf isOne isZeroIns isTruthIns parse)
def gM (n:Nat):Ins→Bool
  | .push q=>Vbdeaa.proper q && decide (0≤q.1)
  | .arg k=>decide (k < n)
  | .var k=>(Vbdeam.readName k).isSome
  | .table t=>decide (t < 64)
  | .call f m=>decide (f < 64) && decide (m≤8)
  | _=>true
theorem Jv {n:Nat} {i:Ins} {st t:List Exp} (h:plain n i st=some t):gM n i=true:=by
  cases i with
  | push q =>
    unfold Vbdeam.plain at h
    simp only at h
    split at h
    · rename_i hq
      show (Vbdeaa.proper q && decide (0≤q.1))=true
      rw [hq.1,decide_eq_true hq.2]
      rfl
    · cases h
  | arg k =>
    unfold Vbdeam.plain at h
    simp only at h
    split at h
    · rename_i hq; exact decide_eq_true hq
    · cases h
  | var k =>
    unfold Vbdeam.plain at h
    simp only at h
    obtain ⟨x,hx,_⟩:=Option.map_eq_some_iff.mp h
    show (Vbdeam.readName k).isSome=true
    rw [hx]
    rfl
  | table k =>
    cases st with
    | nil=>unfold Vbdeam.plain at h; cases h
    | cons x st =>
      unfold Vbdeam.plain at h
      simp only at h
      split at h
      · rename_i hq; exact decide_eq_true hq
      · cases h
  | call f m =>
    unfold Vbdeam.plain at h
    simp only at h
    split at h
    · cases h
    · rename_i hq
      show (decide (f < 64) && decide (m≤8))=true
      rw [decide_eq_true (show f < 64 by omega),decide_eq_true (show m≤8 by omega)]
      rfl
  | _=>rfl
theorem jJ {r:Code} {m:Nat} {i j:Ins} (hj:r[m]?=some j) (hi:i∈r):i∈r.take m∨i=j∨i∈r.drop (m+1):=by
  have hlt:=(List.getElem?_eq_some_iff.mp hj)
  obtain ⟨h1,h2⟩:=hlt
  rw [← List.take_append_drop m r,List.drop_eq_getElem_cons h1,h2] at hi
  simp only [List.mem_append,List.mem_cons] at hi
  exact hi
theorem Ji {n:Nat} {c:Code} {st:List Exp} {e:Exp} (h:Run n c st e):∀ i∈c,gM n i=true:=by
  induction h with
  | done e=>intro i hi; cases hi
  | plain hp _ ih =>
    intro i hi
    rcases List.mem_cons.mp hi with rfl | hi
    · exact Jv hp
    · exact ih i hi
  | or_ hp _ _ ihb ihr =>
    obtain ⟨m,r2,rfl,rfl,h1,h2,h3,rfl,rfl⟩:=Bj hp
    intro i hi
    simp only [List.mem_cons] at hi
    rcases hi with rfl | rfl | rfl | hi
    · rfl
    · show (Vbdeaa.proper (1,1) && decide ((0:Int)≤1))=true; decide +kernel
    · rfl
    · rcases jJ h3 hi with hi | rfl | hi
      · exact ihb i hi
      · rfl
      · rw [show m - 1+1=m by omega] at hi
        exact ihr i hi
  | @and_ a st k r b rest y e hp _ _ ihb ihr =>
    obtain ⟨h1,h2,h3,h4,h5,rfl,rfl⟩:=yh hp
    intro i hi
    rcases List.mem_cons.mp hi with rfl | hi
    · rfl
    · rcases jJ h5 hi with hi | rfl | hi
      · have g4:(r.take k)[k - 1]?=some (.jump 1):=by rw [List.getElem?_take,if_pos (by omega),h4]
        rcases jJ g4 hi with hi | rfl | hi
        · rw [List.take_take] at hi
          have g3:(r.take (min (k - 1) k))[k - 2]?=some .truth:=by rw [List.getElem?_take,if_pos (by omega),h3]
          rcases jJ g3 hi with hi | rfl | hi
          · rw [List.take_take,show min (k - 2) (min (k - 1) k)=k - 2 by omega] at hi
            exact ihb i hi
          · rfl
          · rw [List.drop_eq_nil_of_le (by rw [List.length_take]; omega)] at hi
            cases hi
        · rfl
        · rw [List.drop_eq_nil_of_le (by rw [List.length_take]; omega)] at hi
          cases hi
      · show (Vbdeaa.proper (0,1) && decide ((0:Int)≤0))=true; decide +kernel
      · exact ihr i hi
  | @if_ a st k r x y rest u v e hp _ _ _ ihx ihy ihr =>
    obtain ⟨m,h1,h2,h3,rfl,rfl,rfl⟩:=BL hp
    intro i hi
    rcases List.mem_cons.mp hi with rfl | hi
    · rfl
    · rcases jJ h2 hi with hi | rfl | hi
      · exact ihx i hi
      · rfl
      · rw [show k - 1+1=k by omega,← List.take_append_drop m (r.drop k)] at hi
        rcases List.mem_append.mp hi with hi | hi
        · exact ihy i hi
        · rw [List.drop_drop] at hi
          exact ihr i hi
def hd:List Int→Option (Ins×List Int)
  | []=>none
  | 9 :: r=>some (.truth,r)
  | 0 :: n :: d :: r=>if d < 0 then none else some (.push (n,d.toNat),r)
  | 8 :: i :: n :: r=>if i < 0∨n < 0 then none else some (.call i.toNat n.toNat,r)
  | k :: n :: r=>match Vbdeaa.one k n with
    | none=>none
    | some i=>some (i,r)
  | _ :: []=>none
theorem wy {l:List Int} (h:l≠[]):Vbdeaa.codeOf l=(hd l).bind fun p=>(Vbdeaa.codeOf p.2).map fun c=>p.1 :: c:=by
  unfold hd
  split
  · exact absurd rfl h
  · rw [Vbdeaa.codeOf]; rfl
  · rw [Vbdeaa.codeOf]
    split <;> rfl
  · rw [Vbdeaa.codeOf]
    split <;> rfl
  · rename_i k n r h1 h2 h3
    rw [Vbdeaa.codeOf]
    · cases Vbdeaa.one k n <;> rfl
    · exact h1
    · exact h2
    · exact h3
  · rename_i a h1
    rw [Vbdeaa.codeOf]
    · rfl
    · exact h1
theorem yU {k n:Int} {i:Ins} (h:Vbdeaa.one k n=some i):[k,n]=i.told:=by
  unfold Vbdeaa.one at h
  split at h
  · cases h
  rename_i hn
  split at h
  · rename_i e; cases h; rw [e]; show [1,n]=[1,((n.toNat:Nat):Int)]; rw [Int.toNat_of_nonneg (by omega)]
  split at h
  · rename_i e; cases h; rw [e]; show [2,n]=[2,((n.toNat:Nat):Int)]; rw [Int.toNat_of_nonneg (by omega)]
  split at h
  · rename_i e
    obtain ⟨o,ho,rfl⟩:=Option.map_eq_some_iff.mp h
    have:∀ (j:Nat) (o:Vbdeaa.Un),Vbdeaa.UNS[j]?=some o→(Vbdeaa.UNS.findIdx fun x=>x==o)=j:=by
      intro j o hj
      have hlt:=(List.getElem?_eq_some_iff.mp hj).1
      have:j < 8:=hlt
      have hc:j=0∨j=1∨j=2∨j=3∨j=4∨j=5∨j=6∨j=7:=by omega
      rcases hc with rfl | rfl | rfl | rfl | rfl | rfl | rfl | rfl <;> (cases hj; decide +kernel)
    show [k,n]=[3,((Vbdeaa.UNS.findIdx fun x=>x==o:Nat):Int)]
    rw [this _ _ ho,e,Int.toNat_of_nonneg (by omega)]
  split at h
  · rename_i e
    obtain ⟨o,ho,rfl⟩:=Option.map_eq_some_iff.mp h
    have:∀ (j:Nat) (o:Vbdeaa.Bin),Vbdeaa.BINS[j]?=some o→(Vbdeaa.BINS.findIdx fun x=>x==o)=j:=by
      intro j o hj
      have hlt:=(List.getElem?_eq_some_iff.mp hj).1
      have:j < 13:=hlt
      have hc:j=0∨j=1∨j=2∨j=3∨j=4∨j=5∨j=6∨j=7∨j=8∨j=9∨j=10∨j=11∨j=12:=by omega
      rcases hc with rfl | rfl | rfl | rfl | rfl | rfl | rfl | rfl | rfl | rfl | rfl | rfl | rfl <;> (cases hj; decide +kernel)
    show [k,n]=[4,((Vbdeaa.BINS.findIdx fun x=>x==o:Nat):Int)]
    rw [this _ _ ho,e,Int.toNat_of_nonneg (by omega)]
  split at h
  · rename_i e; cases h; rw [e]; show [5,n]=[5,((n.toNat:Nat):Int)]; rw [Int.toNat_of_nonneg (by omega)]
  split at h
  · rename_i e; cases h; rw [e]; show [6,n]=[6,((n.toNat:Nat):Int)]; rw [Int.toNat_of_nonneg (by omega)]
  split at h
  · rename_i e; cases h; rw [e]; show [7,n]=[7,((n.toNat:Nat):Int)]; rw [Int.toNat_of_nonneg (by omega)]
  split at h
  · rename_i e
    split at h
    · rename_i e2; cases h; rw [e,e2]; rfl
    · split at h
      · rename_i e2; cases h; rw [e,e2]; rfl
      · cases h
  · cases h
theorem Dv {l r:List Int} {i:Ins} (h:hd l=some (i,r)):l=i.told++r:=by
  unfold hd at h
  split at h
  · cases h
  · cases h; rfl
  · split at h
    · cases h
    · rename_i n d r' hd'
      cases h
      show 0 :: n :: d :: r=[0,n,((d.toNat:Nat):Int)]++r
      rw [Int.toNat_of_nonneg (by omega)]
      rfl
  · split at h
    · cases h
    · rename_i a n r' hd'
      cases h
      show 8 :: a :: n :: r=[8,((a.toNat:Nat):Int),((n.toNat:Nat):Int)]++r
      rw [Int.toNat_of_nonneg (by omega),Int.toNat_of_nonneg (by omega)]
      rfl
  · split at h
    · cases h
    · rename_i i' ho
      cases h
      rw [← yU ho]
      rfl
  · cases h
theorem yp (i:Ins):1≤i.told.length:=by cases i <;> simp [Vbdeaa.Ins.told]
def Cut (n:Nat) (l:List Int) (c:Code):Prop:=Vbdeaa.codeOf l=some c∧∀ i∈c,gM n i=true
theorem Od {n:Nat}:Cut n [] []:=⟨rfl,fun i h=>by cases h⟩
theorem KQ {n:Nat} {l r:List Int} {i:Ins} {c:Code} (h:hd l=some (i,r)) (hi:gM n i=true) (hc:Cut n r c):Cut n l (i :: c):=by
  refine ⟨?_,?_⟩
  · rw [wy (fun z=>by rw [z] at h; cases h),h]
    simp only [Option.bind_some,hc.1,Option.map_some]
  · intro j hj
    rcases List.mem_cons.mp hj with rfl | hj
    · exact hi
    · exact hc.2 j hj
theorem DX {n:Nat} {l:List Int} {c:Code} (hl:l≠[]) (h:Cut n l c):∃ i r c',hd l=some (i,r)∧gM n i=true∧Cut n r c'∧c=i :: c':=by
  obtain ⟨h1,h2⟩:=h
  rw [wy hl] at h1
  obtain ⟨⟨i,r⟩,h3,h4⟩:=Option.bind_eq_some_iff.mp h1
  obtain ⟨c',h5,h6⟩:=Option.map_eq_some_iff.mp h4
  subst h6
  exact ⟨i,r,c',h3,h2 _ List.mem_cons_self,⟨h5,fun j hj=>h2 j (List.mem_cons_of_mem _ hj)⟩,rfl⟩
theorem Ha {n:Nat} {l:List Int} {c:Code} (h:Cut n l c):Vbdeam.expOf n l=Vbdeam.tree n c:=by
  unfold Vbdeam.expOf
  rw [h.1]
  rfl
theorem BV {n:Nat} {l:List Int} (h:∀ c,¬ Cut n l c):Vbdeam.expOf n l=none:=by
  unfold Vbdeam.expOf
  cases hc:Vbdeaa.codeOf l with
  | none=>rfl
  | some c =>
    show Vbdeam.tree n c=none
    cases ht:Vbdeam.tree n c with
    | none=>rfl
    | some e=>exact absurd ⟨hc,Ji (jH.mp ht)⟩ (h c)
end MX
end
section
set_option linter.all false
namespace MX
open Vbdeaa (Exp Exps Ins Code)
open Vbdeam (plain orParts andParts ifParts jumpOf isOne isZeroIns isTruthIns parse size sizeAll joinBest)
def bC:List Ch→List Exp
  | []=>[]
  | x :: r=>x.below++bC r
def cO:List Exp→Nat
  | []=>0
  | e :: l=>size e+cO l
theorem jM (a b:List Exp):cO (a++b)=cO a+cO b:=by
  induction a with
  | nil=>simp [cO]
  | cons x r ih=>simp only [List.cons_append,cO,ih]; omega
theorem nj (e:Exp):1≤size e:=by cases e <;> simp only [Vbdeam.size] <;> omega
theorem iw (l:List Exp):l.length≤cO l:=by
  induction l with
  | nil=>exact Nat.le_refl _
  | cons x r ih=>have:=nj x; simp only [List.length_cons,cO]; omega
def Ri (x:Ch):Nat:=size x.cond+(match x.first with | none=>0 | some f=>size f)+cO x.below
def j_:List Ch→Nat
  | []=>0
  | x :: r=>Ri x+j_ r
def Lj (s:MS):Prop:=cO s.cur+j_ s.chs+s.chs.length≤s.pos
theorem GZ (l:List Exp):sizeAll (Vbdeam.exps l)=cO l:=by
  induction l with
  | nil=>rfl
  | cons x r ih=>show size x+sizeAll (Vbdeam.exps r)=size x+cO r; rw [ih]
theorem Gu (g:Bool) (x y:Exp):size (joinBest g x y)≤size x+size y+1:=by
  unfold Vbdeam.joinBest
  split
  · split <;> simp only [Vbdeam.size,Vbdeam.sizeAll] <;> omega
  · simp only [Vbdeam.size,Vbdeam.sizeAll]
    omega
theorem wM (l:List Exp):cO l.reverse=cO l:=by
  induction l with
  | nil=>rfl
  | cons x r ih=>rw [List.reverse_cons,jM,ih]; simp only [cO]; omega
theorem uh {n:Nat} {i:Ins} {st t:List Exp} (h:plain n i st=some t):cO t≤cO st+1:=by
  cases i with
  | push q =>
    unfold Vbdeam.plain at h; simp only at h
    split at h
    · cases h; simp only [cO,Vbdeam.size]; omega
    · cases h
  | arg k =>
    unfold Vbdeam.plain at h; simp only at h
    split at h
    · cases h; simp only [cO,Vbdeam.size]; omega
    · cases h
  | var k =>
    unfold Vbdeam.plain at h; simp only at h
    obtain ⟨x,hx,e⟩:=Option.map_eq_some_iff.mp h
    subst e
    simp only [cO,Vbdeam.size]; omega
  | un o =>
    cases st with
    | nil=>cases h
    | cons x st=>cases h; simp only [cO,Vbdeam.size]; omega
  | bin o =>
    match st,h with
    | y :: x :: st,h=>cases h; simp only [cO,Vbdeam.size]; omega
  | table k =>
    cases st with
    | nil=>cases h
    | cons x st =>
      unfold Vbdeam.plain at h; simp only at h
      split at h
      · cases h; simp only [cO,Vbdeam.size,Vbdeam.sizeAll]; omega
      · cases h
  | call f m =>
    unfold Vbdeam.plain at h; simp only at h
    split at h
    · cases h
    · split at h
      · cases h; simp only [cO,Vbdeam.size]; omega
      · cases h
        simp only [cO,Vbdeam.size,GZ,wM]
        have:=jM (st.take m) (st.drop m)
        rw [List.take_append_drop] at this
        omega
  | best g =>
    match st,h with
    | y :: x :: st,h=>cases h; have:=Gu g x y; simp only [cO]; omega
  | zero k=>rw [gJ] at h; cases h
  | jump k=>rw [ji] at h; cases h
  | truth=>rw [ik] at h; cases h
theorem tV:∀ {chs:List Ch} {p:Nat} {cur:List Exp} {t:MS},cO cur+j_ chs+chs.length≤p→settle p cur chs=some t→Lj t
  | [],p,cur,t,h,e=>by cases e; exact h
  | x :: r,p,cur,t,h,e=>by
    unfold settle at e
    split at e
    · split at e
      · rename_i e1 f hf
        refine tV ?_ e
        simp only [j_,Ri,hf,cO,List.length_cons,Vbdeam.size] at h ⊢
        omega
      · cases e
    · cases e
      exact h
theorem zL {n:Nat} {c:Code} {s t:MS} {i:Ins} (w:WF c s) (z:Lj s) (h:core n c i s=some t):cO t.cur+j_ t.chs+t.chs.length≤t.pos:=by
  have z':cO s.cur+j_ s.chs+s.chs.length≤s.pos:=z
  have pc:∀ st,plain n i s.cur=some st→t=⟨s.pos+1,st,s.chs⟩→cO t.cur+j_ t.chs+t.chs.length≤t.pos:=by
    rintro st hst rfl
    have:=uh hst
    simp only
    omega
  cases i with
  | zero k =>
    unfold core begin_ at h
    simp only at h
    split at h
    · cases h
    · rename_i a st hcur
      split at h
      · cases h
      · split at h
        · cases h
        · cases h
          rw [hcur] at z'
          simp only [cO,j_,Ri,List.length_cons] at z' ⊢
          omega
  | jump k =>
    unfold core jump at h
    simp only at h
    split at h
    · rename_i e1 x r hcur hs
      split at h
      · cases h
        rw [hcur,hs] at z'
        simp only [cO,j_,Ri,List.length_cons] at z' ⊢
        omega
      · cases h
    · cases h
  | truth =>
    unfold core nine at h
    simp only at h
    split at h
    · rename_i e1 x r hcur hs
      rw [hcur,hs] at z'
      simp only [cO,j_,Ri,List.length_cons] at z'
      have hc:=w.chain
      rw [hs] at hc
      obtain ⟨h1,h2,h3,h4,h5,h6⟩:=hc
      split at h
      · split at h
        · rename_i hc; cases h; simp only [cO,Vbdeam.size]; omega
        · cases h
      · rename_i f hf
        rw [hf] at z'
        split at h
        · rename_i hc; cases h; simp only [cO,Vbdeam.size]; omega
        · cases h
    · cases h
  | push q=>unfold core at h; simp only at h; obtain ⟨st,e1,e2⟩:=Option.map_eq_some_iff.mp h; exact pc st e1 e2.symm
  | arg q=>unfold core at h; simp only at h; obtain ⟨st,e1,e2⟩:=Option.map_eq_some_iff.mp h; exact pc st e1 e2.symm
  | var q=>unfold core at h; simp only at h; obtain ⟨st,e1,e2⟩:=Option.map_eq_some_iff.mp h; exact pc st e1 e2.symm
  | un q=>unfold core at h; simp only at h; obtain ⟨st,e1,e2⟩:=Option.map_eq_some_iff.mp h; exact pc st e1 e2.symm
  | bin q=>unfold core at h; simp only at h; obtain ⟨st,e1,e2⟩:=Option.map_eq_some_iff.mp h; exact pc st e1 e2.symm
  | table q=>unfold core at h; simp only at h; obtain ⟨st,e1,e2⟩:=Option.map_eq_some_iff.mp h; exact pc st e1 e2.symm
  | call q q'=>unfold core at h; simp only at h; obtain ⟨st,e1,e2⟩:=Option.map_eq_some_iff.mp h; exact pc st e1 e2.symm
  | best q=>unfold core at h; simp only at h; obtain ⟨st,e1,e2⟩:=Option.map_eq_some_iff.mp h; exact pc st e1 e2.symm
theorem yu:Lj ⟨0,[],[]⟩:=Nat.le_refl _
theorem yr {n:Nat} {c:Code} {s t:MS} (w:WF c s) (z:Lj s) (h:step n c s=some t):Lj t:=by
  unfold step at h
  split at h
  · cases h
  · rename_i i hi
    obtain ⟨u,hu,ht⟩:=Option.bind_eq_some_iff.mp h
    exact tV (zL w z hu) ht
theorem Jh {n:Nat} {c:Code} {e:Exp} (h:Run n c [] e):size e≤c.length:=by
  have key:∀ {s t:MS},Reach n c s t→WF c s→Lj s→WF c t∧Lj t:=by
    intro s t r
    induction r with
    | refl s=>exact fun w z=>⟨w,z⟩
    | step a _ ih=>exact fun w z=>ih (Ly w a) (yr w z a)
  have:=(key (kJ h) (rR c) yu).2
  have this:cO [e]+j_ []+0≤c.length:=this
  simp only [cO,j_] at this
  omega
theorem mL:∀ (chs:List Ch),cO (bC chs)≤j_ chs
  | []=>Nat.le_refl _
  | x :: r=>by
    have:=mL r
    simp only [bC,jM,j_,Ri]
    omega
end MX
end
section
set_option linter.all false
set_option maxRecDepth 10000
namespace MX
open Vbdeaa (Exp Exps Un Bin Tok Text tokens token numberToken digit letter wordSign blank digitsValue text sg wd decimal shownQ proper small frac)
def Lex (w:Text) (ts:List Tok) (s:Text):Prop:=∀ k p,(w++s).length < k→∃ k' p',s.length < k'∧(tokens k p (w++s)).map Prod.fst=ts++(tokens k' p' s).map Prod.fst
theorem Lex.app {w1 w2:Text} {t1 t2:List Tok} {s:Text} (h1:Lex w1 t1 (w2++s)) (h2:Lex w2 t2 s):Lex (w1++w2) (t1++t2) s:=by
  intro k p hk
  rw [List.append_assoc] at hk ⊢
  obtain ⟨k1,p1,h,e1⟩:=h1 k p hk
  obtain ⟨k2,p2,h',e2⟩:=h2 k1 p1 h
  exact ⟨k2,p2,h',by rw [e1,e2,List.append_assoc]⟩
theorem Lex.blank {s:Text}:Lex [32] [] s:=by
  intro k p hk
  cases k with
  | zero=>omega
  | succ k=>exact ⟨k,p+1,by simp only [List.length_append,List.length_cons,List.length_nil] at hk; omega,rfl⟩
theorem Lex.tok {c:Int} {w s:Text} {x:Tok} (hb:Vbdeaa.blank c=false) (h:token (c :: w++s)=(x,s)) (hx:x≠.bad):Lex (c :: w) [x] s:=by
  intro k p hk
  cases k with
  | zero=>omega
  | succ k =>
    refine ⟨k,p+((c :: w++s).length - s.length),by simp only [List.length_append,List.length_cons] at hk; omega,?_⟩
    have e:tokens (k+1) p (c :: w++s)=(x,p) :: tokens k (p+((c :: w++s).length - s.length)) s:=by
      show (if Vbdeaa.blank c=true then tokens k (p+1) (w++s) else match token (c :: w++s) with
        | (.bad,_)=>[(.bad,p)]
        | (x,s')=>(x,p) :: tokens k (p+((c :: w++s).length - s'.length)) s')=_
      rw [hb,h]
      cases x <;> first | exact absurd rfl hx | rfl
    rw [e]
    rfl
def After (s:Text):Prop:=∀ c,s.head?=some c→c=32∨c=40∨c=41∨c=44
theorem Ht:After []:=fun c h=>by cases h
theorem cW {c:Int} {s:Text} (h:c=32∨c=40∨c=41∨c=44):After (c :: s):=fun d e=>by cases e; exact h
theorem mJ (n:Nat):decimal n=(Nat.toDigits 10 n).map fun c=>(c.toNat:Int):=by
  unfold Vbdeaa.decimal Vbdeaa.text
  rw [Nat.toString_eq_repr,Nat.toList_repr]
theorem eU {n:Nat} {c:Int} (h:c∈decimal n):digit c=true:=by
  rw [mJ] at h
  obtain ⟨d,hd,rfl⟩:=List.mem_map.mp h
  have:=Nat.isDigit_of_mem_toDigits (by decide) (by decide) hd
  unfold Vbdeaa.digit
  simp only [Char.isDigit,Bool.and_eq_true,decide_eq_true_eq,UInt32.le_iff_toNat_le,ge_iff_le] at this ⊢
  have h1:'0'.val.toNat=48:=rfl
  have h2:'9'.val.toNat=57:=rfl
  have h3:d.toNat=d.val.toNat:=rfl
  omega
theorem mH (n:Nat):decimal n≠[]:=by
  rw [mJ]
  intro h
  exact Nat.toDigits_ne_nil (List.map_eq_nil_iff.mp h)
theorem lV (n:Nat):digitsValue (decimal n)=n:=by
  unfold Vbdeaa.digitsValue
  rw [mJ,List.foldl_map]
  have:∀ (l:List Char) (m:Nat),(∀ c∈l,c.isDigit=true)→l.foldl (fun x y=>10 * x+((y.toNat:Int) - 48).toNat) m=Nat.ofDigitChars 10 l m:=by
    intro l
    induction l with
    | nil=>intro m _; rw [Nat.ofDigitChars_nil]; rfl
    | cons c r ih =>
      intro m hc
      rw [Nat.ofDigitChars_cons,List.foldl_cons,ih _ fun d hd=>hc d (List.mem_cons_of_mem _ hd)]
      have h0:'0'.toNat=48:=rfl
      rw [h0]
      have e2:((c.toNat:Int) - 48).toNat=c.toNat - 48:=by omega
      rw [e2]
  rw [this _ _ fun c hc=>Nat.isDigit_of_mem_toDigits (by decide) (by decide) hc]
  exact Nat.ofDigitChars_ten_toDigits
theorem tH {p:Int→Bool}:∀ {a s:Text},(∀ c∈a,p c=true)→(∀ c,s.head?=some c→p c=false)→(a++s).takeWhile p=a∧(a++s).dropWhile p=s
  | [],[],_,_=>⟨rfl,rfl⟩
  | [],c :: s,_,h=>by
    have:=h c rfl
    simp only [List.nil_append,List.takeWhile_cons,List.dropWhile_cons,this]
    exact ⟨by first | rfl | trivial,by first | rfl | trivial⟩
  | x :: a,s,h,g=>by
    have hx:=h x List.mem_cons_self
    have:=tH (a:=a) (s:=s) (fun c hc=>h c (List.mem_cons_of_mem _ hc)) g
    simp only [List.cons_append,List.takeWhile_cons,List.dropWhile_cons,hx,if_true,this.1,this.2]
    exact ⟨by first | rfl | trivial,by first | rfl | trivial⟩
theorem Kr {n:Int} {d:Nat} (h:Nat.gcd n.natAbs d=1):frac n d=(n,d):=by
  unfold Vbdeaa.frac
  rw [h]
  simp
theorem Nv {q:Vbdeaa.Q} {s:Text} (h:proper q=true) (h0:0≤q.1) (hs:After s):Lex (shownQ q) [.num q] s:=by
  obtain ⟨n,d⟩:=q
  obtain ⟨m,rfl⟩:∃ m:Nat,n=m:=⟨n.toNat,by simp only at h0; omega⟩
  unfold Vbdeaa.proper at h
  simp only [Bool.and_eq_true,beq_iff_eq,Int.natAbs_natCast] at h
  have hf:frac (m:Int) d=((m:Int),d):=Kr (by rw [Int.natAbs_natCast]; exact h.2)
  have hd1:1≤d:=by
    have:=h.1
    unfold Vbdeaa.small at this
    simp only [Bool.and_eq_true,decide_eq_true_eq] at this
    exact this.2.1
  have hsd:∀ c,s.head?=some c→digit c=false:=fun c hc=>by rcases hs c hc with rfl | rfl | rfl | rfl <;> rfl
  have hsl:(s.head?.any fun c=>letter c || (c==95 || (c==46 || c==58)))=false:=by
    cases hc:s.head? with
    | none=>rfl
    | some c=>rcases hs c hc with rfl | rfl | rfl | rfl <;> rfl
  have hs46:(s.head?==some 46 || s.head?==some 58)=false:=by
    cases hc:s.head? with
    | none=>rfl
    | some c=>rcases hs c hc with rfl | rfl | rfl | rfl <;> rfl
  have key:numberToken (shownQ ((m:Int),d)++s)=(.num ((m:Int),d),s):=by
    unfold Vbdeaa.shownQ
    simp only [Int.natAbs_natCast]
    by_cases h1:d=1
    · subst h1
      have tw:=tH (p:=digit) (a:=decimal m) (s:=s) (fun c hc=>eU hc) hsd
      unfold Vbdeaa.numberToken
      simp only [if_true,List.append_nil,tw.1,tw.2,hs46,Bool.false_and,Bool.false_eq_true,if_false,List.length_nil,Nat.pow_zero,hsl,lV,or_false,Nat.one_ne_zero,hf]
      rw [if_pos h.1]
    · rw [if_neg h1]
      have tw:=tH (p:=digit) (a:=decimal m) (s:=58 :: decimal d++s) (fun c hc=>eU hc) (fun c hc=>by cases hc; rfl)
      have tw2:=tH (p:=digit) (a:=decimal d) (s:=s) (fun c hc=>eU hc) hsd
      obtain ⟨x,xs,hx⟩:∃ x xs,decimal d=x :: xs:=by
        cases hq:decimal d with
        | nil=>exact absurd hq (mH d)
        | cons x xs=>exact ⟨x,xs,rfl⟩
      have hdx:digit x=true:=eU (n:=d) (by rw [hx]; exact List.mem_cons_self)
      have hany:((decimal d++s).head?.any digit)=true:=by rw [hx]; exact hdx
      unfold Vbdeaa.numberToken
      rw [List.append_assoc,tw.1,tw.2]
      have e46:((58 :: decimal d++s).head?==some 46 || (58 :: decimal d++s).head?==some 58)=true:=rfl
      have e58:((58 :: decimal d++s).head?==some 58)=true:=rfl
      have edr:(58 :: decimal d++s).drop 1=decimal d++s:=rfl
      simp only [e58,edr,hany,Bool.or_true,Bool.and_true,Bool.and_self,Bool.true_and,if_true,tw2.1,tw2.2,lV,hsl,Bool.false_eq_true,or_false,hf]
      rw [if_neg (by omega),if_pos h.1]
  obtain ⟨x,xs,hx⟩:∃ x xs,shownQ ((m:Int),d)=x :: xs:=by
    cases hq:decimal m with
    | nil=>exact absurd hq (mH m)
    | cons x xs=>exact ⟨x,xs++(if d=1 then [] else 58 :: decimal d),by unfold Vbdeaa.shownQ; simp only [Int.natAbs_natCast,hq]; rfl⟩
  have hdx:digit x=true:=by
    have:x∈decimal m:=by
      cases hq:decimal m with
      | nil=>exact absurd hq (mH m)
      | cons y ys =>
        unfold Vbdeaa.shownQ at hx
        simp only [Int.natAbs_natCast,hq] at hx
        cases hx
        exact List.mem_cons_self
    exact eU this
  rw [hx] at key ⊢
  refine Lex.tok ?_ ?_ (by simp)
  · unfold Vbdeaa.digit at hdx
    have:=of_decide_eq_true hdx
    unfold Vbdeaa.blank
    simp only [Bool.or_eq_false_iff,beq_eq_false_iff_ne,ne_eq]
    refine ⟨?_,?_,?_,?_⟩ <;> omega
  · show token (x :: (xs++s))=_
    unfold Vbdeaa.token
    simp only [hdx,if_true]
    exact key
theorem Bo {n s:Text} (h:Vbdeaa.nameOf n=n) (hs:After s):Vbdeaa.nameOf (n++s)=n:=by
  have hsw:∀ c,s.head?=some c→wordSign c=false:=fun c hc=>by rcases hs c hc with rfl | rfl | rfl | rfl <;> rfl
  have hs46:s.head?≠some 46:=fun e=>by rcases hs _ e with h | h | h | h <;> cases h
  unfold Vbdeaa.nameOf at h
  simp only at h
  have htd:n.takeWhile wordSign++n.dropWhile wordSign=n:=List.takeWhile_append_dropWhile
  have hall:∀ c∈n.takeWhile wordSign,wordSign c=true:=fun c hc=>by
    have:=List.all_takeWhile (p:=wordSign) (l:=n)
    exact List.all_eq_true.mp this c hc
  by_cases hc:(n.dropWhile wordSign).head?=some 46∧((n.dropWhile wordSign).drop 1).head?.any letter=true
  · rw [if_pos hc] at h
    generalize hw:n.takeWhile wordSign=w at *
    generalize hr:n.dropWhile wordSign=r at *
    obtain ⟨c1,c2⟩:=hc
    cases r with
    | nil=>cases c1
    | cons y r =>
      cases c1
      rw [List.drop_one,List.tail_cons] at h c2
      have hr2:r.takeWhile wordSign=r:=by
        have:=htd.trans h.symm
        have:=List.append_cancel_left this
        injection this with _ h3
        exact h3.symm
      have hall2:∀ c∈r,wordSign c=true:=fun c hc=>by
        have:=List.all_takeWhile (p:=wordSign) (l:=r)
        rw [hr2] at this
        exact List.all_eq_true.mp this c hc
      have e1:n++s=w++(46 :: (r++s)):=by rw [← htd]; simp
      have t1:=tH (p:=wordSign) (a:=w) (s:=46 :: (r++s)) hall (fun c hc=>by cases hc; rfl)
      have t2:=tH (p:=wordSign) (a:=r) (s:=s) hall2 hsw
      unfold Vbdeaa.nameOf
      simp only
      rw [e1,t1.1,t1.2]
      have c3:((46 :: (r++s)).drop 1).head?.any letter=true:=by
        rw [List.drop_one,List.tail_cons]
        cases r with
        | nil=>cases c2
        | cons z r=>exact c2
      rw [if_pos ⟨rfl,c3⟩,List.drop_one,List.tail_cons,t2.1]
      exact htd
  · rw [if_neg hc] at h
    have hall3:∀ c∈n,wordSign c=true:=fun c hc=>hall c (by rw [h]; exact hc)
    have t1:=tH (p:=wordSign) (a:=n) (s:=s) hall3 hsw
    unfold Vbdeaa.nameOf
    simp only
    rw [t1.1,t1.2,if_neg (fun z=>hs46 z.1)]
theorem zj {n s:Text} (h:Vbdeaa.isName n=true) (hs:After s):Lex n [.name n] s:=by
  unfold Vbdeaa.isName at h
  simp only [Bool.and_eq_true,beq_iff_eq,decide_eq_true_eq,Bool.not_eq_true'] at h
  obtain ⟨h1,h2,h3,h4⟩:=h
  cases n with
  | nil=>cases h1
  | cons c n =>
    have hl:letter c=true:=h1
    have hd:digit c=false:=by
      unfold Vbdeaa.letter at hl
      have:=of_decide_eq_true hl
      unfold Vbdeaa.digit
      exact decide_eq_false (by omega)
    refine Lex.tok ?_ ?_ (by simp)
    · unfold Vbdeaa.letter at hl
      have:=of_decide_eq_true hl
      unfold Vbdeaa.blank
      simp only [Bool.or_eq_false_iff,beq_eq_false_iff_ne,ne_eq]
      refine ⟨?_,?_,?_,?_⟩ <;> omega
    · show token (c :: (n++s))=_
      unfold Vbdeaa.token
      simp only [hd,hl,if_true,Bool.false_eq_true,if_false]
      have e:Vbdeaa.nameOf (c :: (n++s))=c :: n:=Bo (n:=c :: n) h2 hs
      have hw:¬ (c :: n)∈Vbdeaa.WORDS:=fun z=>by
        have:=List.contains_iff_mem.mpr z
        rw [this] at h4
        cases h4
      rw [e,if_neg (by omega),if_neg hw,show c :: (n++s)=(c :: n)++s from rfl,List.drop_left]
end MX
end
section
set_option linter.all false
set_option maxRecDepth 10000
namespace MX
open Vbdeaa (Exp Exps Un Bin Tok Text tokens token text sg wd decimal shownQ proper unWord binSign binNeeds closed)
mutual
def i_:Exp→Prop
  | .num q=>proper q=true∧0≤q.1
  | .name n=>Vbdeaa.isName n=true∧∀ c∈n,0≤c
  | .un _ a=>i_ a
  | .bin _ a b=>i_ a∧i_ b
  | .and a b=>i_ a∧i_ b
  | .or a b=>i_ a∧i_ b
  | .cond c a b=>i_ c∧i_ a∧i_ b
  | .best _ l=>yl l∧l≠.nil
  | .use n l=>(Vbdeaa.isName n=true∧∀ c∈n,0≤c)∧yl l∧l≠.nil
def yl:Exps→Prop
  | .nil=>True
  | .cons e l=>i_ e∧yl l
end
def cl (level need:Nat) (t:List Tok):List Tok:=if level < need then sg "(" :: (t++[sg ")"]) else t
def bF (o:Bin):Tok:=sg (binSign o)
mutual
def T:Exp→List Tok
  | .num q=>[.num q]
  | .name n=>[.name n]
  | .un .neg a=>sg "-" :: cl a.level 7 (T a)
  | .un .not a=>wd "not" :: cl a.level 3 (T a)
  | .un o a=>wd (unWord o) :: sg "(" :: (T a++[sg ")"])
  | .bin o a b=>cl a.level (binNeeds o).1 (T a)++(bF o :: cl b.level (binNeeds o).2 (T b))
  | .and a b=>cl a.level 2 (T a)++(wd "and" :: cl b.level 3 (T b))
  | .or a b=>cl a.level 1 (T a)++(wd "or" :: cl b.level 2 (T b))
  | .cond c a b=>wd "if" :: (T c++(wd "then" :: (T a++(wd "else" :: T b))))
  | .best g l=>wd (if g=true then "max" else "min") :: sg "(" :: (TA l++[sg ")"])
  | .use n l=>.name n :: sg "(" :: (TA l++[sg ")"])
def TA:Exps→List Tok
  | .nil=>[]
  | .cons e .nil=>T e
  | .cons e (.cons f l)=>T e++(sg "," :: TA (.cons f l))
end
theorem sH {c:Int} {s:Text} {x:Tok} (hb:Vbdeaa.blank c=false) (h:token (c :: s)=(x,s)) (hx:x≠.bad):Lex [c] [x] s:=Lex.tok hb h hx
theorem oK {s:Text}:Lex [40] [sg "("] s:=sH rfl rfl (by simp [Vbdeaa.sg])
theorem uA {s:Text}:Lex [41] [sg ")"] s:=sH rfl rfl (by simp [Vbdeaa.sg])
theorem Gn {s:Text}:Lex (text ", ") [sg ","] s:=Lex.app (w1:=[44]) (w2:=[32]) (t1:=[sg ","]) (t2:=[]) (sH rfl rfl (by simp [Vbdeaa.sg])) Lex.blank
theorem Gm {s:Text}:Lex [45] [sg "-"] s:=sH rfl rfl (by simp [Vbdeaa.sg])
theorem oM {t s:Text} {ts:List Tok} (h:∀ s,After s→Lex t ts s):Lex (40 :: (t++[41])) (sg "(" :: (ts++[sg ")"])) s :=
  Lex.app (w1:=[40]) (t1:=[sg "("]) oK (Lex.app (h _ (cW (.inr (.inr (.inl rfl))))) uA)
theorem dX {lv nd:Nat} {t s:Text} {ts:List Tok} (h:∀ s,After s→Lex t ts s) (hs:After s):Lex (closed lv nd t) (cl lv nd ts) s:=by
  unfold Vbdeaa.closed cl
  by_cases c:lv < nd
  · rw [if_pos c,if_pos c]; exact oM h
  · rw [if_neg c,if_neg c]; exact h s hs
theorem Nz (o:Bin) {s:Text}:Lex (text (binSign o)) [bF o] (32 :: s):=by
  cases o with
  | ne=>exact Lex.tok (c:=60) (w:=[62]) rfl rfl (by simp [bF,Vbdeaa.sg])
  | le=>exact Lex.tok (c:=60) (w:=[61]) rfl rfl (by simp [bF,Vbdeaa.sg])
  | ge=>exact Lex.tok (c:=62) (w:=[61]) rfl rfl (by simp [bF,Vbdeaa.sg])
  | quo=>exact Lex.tok (c:=47) (w:=[47]) rfl rfl (by simp [bF,Vbdeaa.sg])
  | add=>exact Lex.tok (c:=43) (w:=[]) rfl rfl (by simp [bF,Vbdeaa.sg])
  | sub=>exact Lex.tok (c:=45) (w:=[]) rfl rfl (by simp [bF,Vbdeaa.sg])
  | mul=>exact Lex.tok (c:=42) (w:=[]) rfl rfl (by simp [bF,Vbdeaa.sg])
  | div=>exact Lex.tok (c:=47) (w:=[]) rfl rfl (by simp [bF,Vbdeaa.sg])
  | rem=>exact Lex.tok (c:=37) (w:=[]) rfl rfl (by simp [bF,Vbdeaa.sg])
  | pow=>exact Lex.tok (c:=94) (w:=[]) rfl rfl (by simp [bF,Vbdeaa.sg])
  | eq=>exact Lex.tok (c:=61) (w:=[]) rfl rfl (by simp [bF,Vbdeaa.sg])
  | lt=>exact Lex.tok (c:=60) (w:=[]) rfl rfl (by simp [bF,Vbdeaa.sg])
  | gt=>exact Lex.tok (c:=62) (w:=[]) rfl rfl (by simp [bF,Vbdeaa.sg])
theorem gY (w:String):wd w≠.bad:=by simp [Vbdeaa.wd]
theorem Ny {s:Text}:Lex (text "not ") [wd "not"] s:=Lex.app (w1:=[110,111,116]) (w2:=[32]) (t1:=[wd "not"]) (t2:=[]) (Lex.tok rfl rfl (gY _)) Lex.blank
theorem Q6 {s:Text}:Lex (text "if ") [wd "if"] s:=Lex.app (w1:=[105,102]) (w2:=[32]) (t1:=[wd "if"]) (t2:=[]) (Lex.tok rfl rfl (gY _)) Lex.blank
theorem J8 {s:Text}:Lex (text " then ") [wd "then"] s:=Lex.app (w1:=[32]) (w2:=[116,104,101,110,32]) (t1:=[]) Lex.blank (Lex.app (w1:=[116,104,101,110]) (w2:=[32]) (t1:=[wd "then"]) (t2:=[]) (Lex.tok rfl rfl (gY _)) Lex.blank)
theorem J9 {s:Text}:Lex (text " else ") [wd "else"] s:=Lex.app (w1:=[32]) (w2:=[101,108,115,101,32]) (t1:=[]) Lex.blank (Lex.app (w1:=[101,108,115,101]) (w2:=[32]) (t1:=[wd "else"]) (t2:=[]) (Lex.tok rfl rfl (gY _)) Lex.blank)
theorem NB {s:Text}:Lex (text " and ") [wd "and"] s:=Lex.app (w1:=[32]) (w2:=[97,110,100,32]) (t1:=[]) Lex.blank (Lex.app (w1:=[97,110,100]) (w2:=[32]) (t1:=[wd "and"]) (t2:=[]) (Lex.tok rfl rfl (gY _)) Lex.blank)
theorem Q5 {s:Text}:Lex (text " or ") [wd "or"] s:=Lex.app (w1:=[32]) (w2:=[111,114,32]) (t1:=[]) Lex.blank (Lex.app (w1:=[111,114]) (w2:=[32]) (t1:=[wd "or"]) (t2:=[]) (Lex.tok rfl rfl (gY _)) Lex.blank)
theorem Bv (g:Bool) {s:Text}:Lex (text (if g=true then "max(" else "min(")) [wd (if g=true then "max" else "min"),sg "("] s:=by
  cases g with
  | false=>exact Lex.app (w1:=[109,105,110]) (w2:=[40]) (t1:=[wd "min"]) (t2:=[sg "("]) (Lex.tok rfl rfl (gY _)) oK
  | true=>exact Lex.app (w1:=[109,97,120]) (w2:=[40]) (t1:=[wd "max"]) (t2:=[sg "("]) (Lex.tok rfl rfl (gY _)) oK
def mX:Un→Bool
  | .neg=>false
  | .not=>false
  | _=>true
theorem Q4 (o:Un) (h:mX o=true) {s:Text}:Lex (text (unWord o)) [wd (unWord o)] (40 :: s):=by
  cases o with
  | neg=>cases h
  | not=>cases h
  | floor=>exact Lex.tok (c:=102) (w:=[108,111,111,114]) rfl rfl (gY _)
  | ceil=>exact Lex.tok (c:=99) (w:=[101,105,108]) rfl rfl (gY _)
  | abs=>exact Lex.tok (c:=97) (w:=[98,115]) rfl rfl (gY _)
  | sign=>exact Lex.tok (c:=115) (w:=[105,103,110]) rfl rfl (gY _)
  | num=>exact Lex.tok (c:=110) (w:=[117,109]) rfl rfl (gY _)
  | den=>exact Lex.tok (c:=100) (w:=[101,110]) rfl rfl (gY _)
theorem tU {o:Un} (h:mX o=true) (a:Exp):(Exp.un o a).shown=text (unWord o)++(40 :: (a.shown++[41]))∧T (.un o a)=wd (unWord o) :: sg "(" :: (T a++[sg ")"]):=by
  cases o <;> first | exact ⟨rfl,rfl⟩ | cases h
mutual
theorem dZ:∀ (e:Exp),i_ e→∀ s,After s→Lex e.shown (T e) s
  | .num q,h,s,hs=>Nv h.1 h.2 hs
  | .name n,h,s,hs=>zj h.1 hs
  | .un o a,h,s,hs=>by
    have ih:=dZ a h
    by_cases hp:mX o=true
    · rw [(tU hp a).1,(tU hp a).2]
      exact Lex.app (t1:=[wd (unWord o)]) (Q4 o hp) (oM ih)
    · cases o with
      | neg=>exact Lex.app (w1:=[45]) (t1:=[sg "-"]) Gm (dX ih hs)
      | not=>exact Lex.app (w1:=text "not ") (t1:=[wd "not"]) Ny (dX ih hs)
      | _=>exact absurd rfl hp
  | .bin o a b,h,s,hs=>Lex.app (dX (dZ a h.1) (cW (.inl rfl))) (Lex.app (w1:=[32]) (t1:=[]) Lex.blank (Lex.app (t1:=[bF o]) (Nz o) (Lex.app (w1:=[32]) (t1:=[]) Lex.blank (dX (dZ b h.2) hs))))
  | .and a b,h,s,hs=>Lex.app (dX (dZ a h.1) (cW (.inl rfl))) (Lex.app (t1:=[wd "and"]) NB (dX (dZ b h.2) hs))
  | .or a b,h,s,hs=>Lex.app (dX (dZ a h.1) (cW (.inl rfl))) (Lex.app (t1:=[wd "or"]) Q5 (dX (dZ b h.2) hs))
  | .cond c a b,h,s,hs=>Lex.app (t1:=[wd "if"]) Q6 (Lex.app (dZ c h.1 _ (cW (.inl rfl))) (Lex.app (t1:=[wd "then"]) J8 (Lex.app (dZ a h.2.1 _ (cW (.inl rfl))) (Lex.app (t1:=[wd "else"]) J9 (dZ b h.2.2 _ hs)))))
  | .best g l,h,s,hs=>Lex.app (t1:=[wd (if g=true then "max" else "min"),sg "("]) (Bv g) (Lex.app (uB l h.1 _ (cW (.inr (.inr (.inl rfl))))) uA)
  | .use n l,h,s,hs=>Lex.app (t1:=[.name n]) (zj h.1.1 (cW (.inr (.inl rfl)))) (Lex.app (w1:=[40]) (t1:=[sg "("]) oK (Lex.app (uB l h.2.1 _ (cW (.inr (.inr (.inl rfl))))) uA))
theorem uB:∀ (l:Exps),yl l→∀ s,After s→Lex l.shown (TA l) s
  | .nil,h,s,hs=>fun k p hk=>⟨k,p,hk,rfl⟩
  | .cons e .nil,h,s,hs=>dZ e h.1 s hs
  | .cons e (.cons f l),h,s,hs=>Lex.app (dZ e h.1 _ (cW (.inr (.inr (.inr rfl))))) (Lex.app (t1:=[sg ","]) Gn (uB (.cons f l) h.2 s hs))
end
theorem Ae {e:Exp} (h:i_ e):(Vbdeaa.tokensOf e.shown).map Prod.fst=T e++[.eof]:=by
  obtain ⟨k,p,hk,q⟩:=dZ e h [] Ht (e.shown.length+1) 0 (by rw [List.append_nil]; omega)
  rw [List.append_nil] at q
  unfold Vbdeaa.tokensOf
  rw [q]
  cases k <;> rfl
end MX
end
section
set_option linter.all false
set_option maxRecDepth 10000
namespace MX
open Vbdeaa (Exp Exps Un Bin Tok Text Toks text sg wd unWord binSign binNeeds exp joins atom args peek isTok then_ give opens must joiner oneOf place)
def na (lv nd n:Nat):Nat:=if lv < nd then n+1 else n
mutual
def nest:Exp→Nat
  | .num _=>0
  | .name _=>0
  | .un .neg a=>na a.level 7 (nest a)+1
  | .un .not a=>na a.level 3 (nest a)+1
  | .un _ a=>nest a+1
  | .bin o a b=>max (na a.level (binNeeds o).1 (nest a)) (na b.level (binNeeds o).2 (nest b)+(if o=.pow then 1 else 0))
  | .and a b=>max (na a.level 2 (nest a)) (na b.level 3 (nest b))
  | .or a b=>max (na a.level 1 (nest a)) (na b.level 2 (nest b))
  | .cond c a b=>max (nest c) (max (nest a) (nest b))+1
  | .best _ l=>jx l+1
  | .use _ l=>jx l+1
def jx:Exps→Nat
  | .nil=>0
  | .cons e l=>max (nest e) (jx l)
end
def Res {α:Type} (P:Prop) (x y:Except Nat α):Prop:=(P→x=y)∧(¬ P→∃ p,x=.error p)
theorem Res.iff {α:Type} {P Q:Prop} {x y:Except Nat α} (h:Res P x y) (e:P↔Q):Res Q x y:=⟨fun q=>h.1 (e.mpr q),fun q=>h.2 fun p=>q (e.mp p)⟩
theorem Res.sure {α:Type} {P:Prop} {x y:Except Nat α} (h:x=y) (p:P):Res P x y:=⟨fun _=>h,fun q=>absurd p q⟩
theorem Res.trans {α:Type} {P Q:Prop} {x y z:Except Nat α} (h:Res P x y) (g:P→Res Q y z):Res (P∧Q) x z:=by
  refine ⟨fun pq=>(h.1 pq.1).trans ((g pq.1).1 pq.2),fun n=>?_⟩
  by_cases p:P
  · have:=(g p).2 fun q=>n ⟨p,q⟩
    rw [h.1 p]; exact this
  · exact h.2 p
theorem Res.bind {α β:Type} {P Q:Prop} {m:Vbdeaa.P α} {f:α→Vbdeaa.P β} {t r:Toks} {a:α} {y:Except Nat (β×Toks)} (h:Res P (m t) (.ok (a,r))) (g:P→Res Q (f a r) y):Res (P∧Q) (then_ m f t) y:=by
  refine Res.trans (y:=f a r) ⟨fun p=>?_,fun n=>?_⟩ g
  · unfold Vbdeaa.then_; rw [h.1 p]
  · obtain ⟨l,e⟩:=h.2 n
    exact ⟨l,by unfold Vbdeaa.then_; rw [e]⟩
theorem e_ (d:Nat) (t:Toks):Res (0 < d) (opens d t) (.ok (d - 1,t.drop 1)):=by
  unfold Vbdeaa.opens
  by_cases h:d=0
  · subst h; exact ⟨fun z=>absurd z (by omega),fun _=>⟨place t,rfl⟩⟩
  · exact ⟨fun _=>by rw [if_neg h],fun z=>absurd (by omega) z⟩
theorem jT {x:Tok} {p:Nat} {t:Toks}:Res True (must x ((x,p) :: t)) (.ok ((),t)):=by
  refine Res.sure ?_ trivial
  unfold Vbdeaa.must Vbdeaa.isTok Vbdeaa.peek
  simp
theorem dM {α:Type} (a:α) (t:Toks):Res True (give a t) (.ok (a,t)):=Res.sure rfl trivial
def iI (L:Nat) (x:Tok):Prop:=(1≤L→x≠wd "if")∧(4≤L→x≠wd "not")∧(8≤L→x≠sg "-")
theorem iI.le {L M:Nat} {x:Tok} (h:iI L x) (hm:M≤L):iI M x:=⟨fun z=>h.1 (by omega),fun z=>h.2.1 (by omega),fun z=>h.2.2 (by omega)⟩
theorem iI.all {x:Tok} (h1:x≠wd "if") (h2:x≠wd "not") (h3:x≠sg "-") (L:Nat):iI L x:=⟨fun _=>h1,fun _=>h2,fun _=>h3⟩
theorem Dy {e:Exp} {L:Nat} (h:∃ x ts,T e=x :: ts∧iI e.level x):∃ x ts,cl e.level L (T e)=x :: ts∧iI L x:=by
  unfold cl
  by_cases c:e.level < L
  · exact ⟨sg "(",_,if_pos c,iI.all (by decide) (by decide) (by decide) _⟩
  · obtain ⟨x,ts,h1,h2⟩:=h
    exact ⟨x,ts,by rw [if_neg c,h1],h2.le (by omega)⟩
theorem Km:∀ (e:Exp),∃ x ts,T e=x :: ts∧iI e.level x
  | .num q=>⟨_,_,rfl,iI.all (by simp [Vbdeaa.wd]) (by simp [Vbdeaa.wd]) (by simp [Vbdeaa.sg]) _⟩
  | .name q=>⟨_,_,rfl,iI.all (by simp [Vbdeaa.wd]) (by simp [Vbdeaa.wd]) (by simp [Vbdeaa.sg]) _⟩
  | .un o a=>by
    cases o with
    | neg=>exact ⟨_,_,rfl,fun _=>by decide,fun _=>by decide,fun (z:8≤7)=>absurd z (by decide)⟩
    | not=>exact ⟨_,_,rfl,fun _=>by decide,fun (z:4≤3)=>absurd z (by decide),fun (z:8≤3)=>absurd z (by decide)⟩
    | floor=>exact ⟨_,_,rfl,iI.all (by decide) (by decide) (by decide) _⟩
    | ceil=>exact ⟨_,_,rfl,iI.all (by decide) (by decide) (by decide) _⟩
    | abs=>exact ⟨_,_,rfl,iI.all (by decide) (by decide) (by decide) _⟩
    | sign=>exact ⟨_,_,rfl,iI.all (by decide) (by decide) (by decide) _⟩
    | num=>exact ⟨_,_,rfl,iI.all (by decide) (by decide) (by decide) _⟩
    | den=>exact ⟨_,_,rfl,iI.all (by decide) (by decide) (by decide) _⟩
  | .bin o a b=>by
    obtain ⟨x,ts,h1,h2⟩:=Dy (L:=(binNeeds o).1) (Km a)
    refine ⟨x,ts++(bF o :: cl b.level (binNeeds o).2 (T b)),?_,h2.le ?_⟩
    · show cl a.level (binNeeds o).1 (T a)++_=_
      rw [h1]; rfl
    · cases o <;> exact Nat.le_of_ble_eq_true rfl
  | .and a b=>by
    obtain ⟨x,ts,h1,h2⟩:=Dy (L:=2) (Km a)
    exact ⟨x,ts++(wd "and" :: cl b.level 3 (T b)),by show cl a.level 2 (T a)++_=_; rw [h1]; rfl,h2⟩
  | .or a b=>by
    obtain ⟨x,ts,h1,h2⟩:=Dy (L:=1) (Km a)
    exact ⟨x,ts++(wd "or" :: cl b.level 2 (T b)),by show cl a.level 1 (T a)++_=_; rw [h1]; rfl,h2⟩
  | .cond c a b=>⟨_,_,rfl,fun (z:1≤0)=>absurd z (by decide),fun (z:4≤0)=>absurd z (by decide),fun (z:8≤0)=>absurd z (by decide)⟩
  | .best g l=>by cases g <;> exact ⟨_,_,rfl,iI.all (by decide) (by decide) (by decide) _⟩
  | .use n l=>⟨_,_,rfl,iI.all (by simp [Vbdeaa.wd]) (by simp [Vbdeaa.wd]) (by simp [Vbdeaa.sg]) _⟩
def Stop (L:Nat) (x:Tok):Prop:=x≠sg "("∧(L≤8→x≠sg "^")∧(L≤6→joiner 6 x=none)∧(L≤5→joiner 5 x=none)∧(L≤4→joiner 4 x=none)∧(L≤2→x≠wd "and")∧(L≤1→x≠wd "or")
theorem Stop.le {L M:Nat} {x:Tok} (h:Stop L x) (hm:L≤M):Stop M x:=⟨h.1,fun z=>h.2.1 (by omega),fun z=>h.2.2.1 (by omega),fun z=>h.2.2.2.1 (by omega),fun z=>h.2.2.2.2.1 (by omega),fun z=>h.2.2.2.2.2.1 (by omega),fun z=>h.2.2.2.2.2.2 (by omega)⟩
theorem jN {x:Tok} (h:(x≠sg "("∧x≠sg "^"∧joiner 6 x=none∧joiner 5 x=none∧joiner 4 x=none∧x≠wd "and"∧x≠wd "or")) (L:Nat):Stop L x:=⟨h.1,fun _=>h.2.1,fun _=>h.2.2.1,fun _=>h.2.2.2.1,fun _=>h.2.2.2.2.1,fun _=>h.2.2.2.2.2.1,fun _=>h.2.2.2.2.2.2⟩
theorem pD (L:Nat):Stop L (sg ")"):=jN (by decide) L
theorem Ai (L:Nat):Stop L (sg ","):=jN (by decide) L
theorem Ep (L:Nat):Stop L (wd "then"):=jN (by decide) L
theorem Er (L:Nat):Stop L (wd "else"):=jN (by decide) L
theorem Ib (L:Nat):Stop L .eof:=jN (by decide) L
def RD (e:Exp):Prop:=∀ (k d:Nat) (u r:Toks),u.map Prod.fst=T e→12 * u.length < k→peek r≠sg "("→Res (nest e≤d) (atom k d (u++r)) (.ok (e,r))
def Tn (e:Exp) (L:Nat):Prop:=∀ (k d:Nat) (u r:Toks),u.map Prod.fst=T e→12 * u.length+(10 - L)≤k→Stop L (peek r)→Res (nest e≤d) (exp k d L (u++r)) (.ok (e,r))
def Tv (e:Exp) (L:Nat):Prop:=∀ (k d:Nat) (u r:Toks),u.map Prod.fst=T e→12 * u.length+(10 - L)≤k→Stop (L+1) (peek r)→∃ k',k≤k'+u.length∧Res (nest e≤d) (exp k d L (u++r)) (joins k' d L e r)
def uT (L:Nat):Prop:=L=1∨(L=2∨(L=5∨L=6))
structure All (e:Exp):Prop where
  par:∀ L,L≤8→L≤e.level→Tn e L
  cho:∀ L,uT L→L≤e.level→Tv e L
  atm:e.level=9→RD e
theorem uF {k d L:Nat} {e:Exp} {r:Toks} (hL:uT L) (hk:1≤k) (hs:Stop L (peek r)):joins k d L e r=.ok (e,r):=by
  cases k with
  | zero=>omega
  | succ k =>
    rcases hL with rfl | rfl | rfl | rfl
    · have h:isTok r (wd "or")=false:=by unfold Vbdeaa.isTok; exact beq_eq_false_iff_ne.mpr (hs.2.2.2.2.2.2 (by decide))
      rw [Vbdeaa.joins.eq_2]
      show (if (1:Nat)=1 then (if isTok r (wd "or")=true then _ else _) else _)=_
      rw [if_pos rfl,h]; rfl
    · have h:isTok r (wd "and")=false:=by unfold Vbdeaa.isTok; exact beq_eq_false_iff_ne.mpr (hs.2.2.2.2.2.1 (by decide))
      rw [Vbdeaa.joins.eq_2]
      show (if (2:Nat)=1 then _ else if (2:Nat)=2 then (if isTok r (wd "and")=true then _ else _) else _)=_
      rw [if_neg (by decide),if_pos rfl,h]; rfl
    · have h:=hs.2.2.2.1 (by decide)
      rw [Vbdeaa.joins.eq_2]
      show (if (5:Nat)=1 then _ else if (5:Nat)=2 then _ else match joiner 5 (peek r) with | some o=>_ | none=>_)=_
      rw [if_neg (by decide),if_neg (by decide),h]
    · have h:=hs.2.2.1 (by decide)
      rw [Vbdeaa.joins.eq_2]
      show (if (6:Nat)=1 then _ else if (6:Nat)=2 then _ else match joiner 6 (peek r) with | some o=>_ | none=>_)=_
      rw [if_neg (by decide),if_neg (by decide),h]
theorem qj {k d L:Nat} (hL:uT L) (t:Toks):exp (k+1) d L t=then_ (exp k d (L+1)) (fun a=>joins k d L a) t:=by
  rcases hL with rfl | rfl | rfl | rfl <;> (rw [Vbdeaa.exp.eq_2]; rfl)
theorem zy {k d : Nat} (t : Toks) : exp (k + 1) d 4 t = then_ (exp k d 5) (fun a => fun r => match joiner 4 (peek r) with
        | some o=>then_ (exp k d 5) (fun b=>give (.bin o a b)) (r.drop 1)
        | none=>.ok (a,r)) t:=by rw [Vbdeaa.exp.eq_2]; rfl
theorem ql {k d:Nat} (t:Toks):exp (k+1) d 8 t=then_ (atom k d) (fun a=>fun r=>if isTok r (sg "^")=true then (then_ (opens d) fun e=>then_ (exp k e 7) fun b=>give (.bin .pow a b)) r else .ok (a,r)) t:=by rw [Vbdeaa.exp.eq_2]; rfl
theorem pA {t:Toks} {x:Tok} (h:peek t≠x):isTok t x=false:=by unfold Vbdeaa.isTok; exact beq_eq_false_iff_ne.mpr h
theorem Ky {k d:Nat} {t:Toks} (h:peek t≠wd "if"):exp (k+1) d 0 t=exp k d 1 t:=by
  rw [Vbdeaa.exp.eq_2]
  show (if (0:Nat)=0∧isTok t (wd "if")=true then _ else _)=_
  rw [pA h,if_neg (by simp)]; rfl
theorem G9 {k d:Nat} {t:Toks} (h:peek t≠wd "not"):exp (k+1) d 3 t=exp k d 4 t:=by
  rw [Vbdeaa.exp.eq_2]
  show (if (3:Nat)=0∧_ then _ else if (3:Nat)=3∧isTok t (wd "not")=true then _ else _)=_
  rw [if_neg (by omega),pA h,if_neg (by simp)]; rfl
theorem G_ {k d:Nat} {t:Toks} (h:peek t≠sg "-"):exp (k+1) d 7 t=exp k d 8 t:=by
  rw [Vbdeaa.exp.eq_2]
  show (if (7:Nat)=0∧_ then _ else if (7:Nat)=3∧_ then _ else if (7:Nat)=7∧isTok t (sg "-")=true then _ else _)=_
  rw [if_neg (by omega),if_neg (by omega),pA h,if_neg (by simp)]; rfl
theorem Res.and_true {α:Type} {P:Prop} {x y:Except Nat α} (h:Res (P∧True) x y):Res P x y:=h.iff ⟨fun z=>z.1,fun z=>⟨z,trivial⟩⟩
theorem down {P:Prop} {k d L:Nat} {t r:Toks} {e:Exp} (hL:L≤7) (hk:1≤k) (h:Res P (exp k d (L+1) t) (.ok (e,r))) (hh:iI (L+1) (peek t)) (hs:Stop L (peek r)):Res P (exp (k+1) d L t) (.ok (e,r)):=by
  have chs:uT L→Res P (exp (k+1) d L t) (.ok (e,r)):=fun hc=>by
    rw [qj hc]
    exact (Res.bind h fun _=>Res.sure (P:=True) (uF hc hk hs) trivial).and_true
  rcases (show L=0∨uT L∨L=3∨L=4∨L=7 by unfold uT; omega) with rfl | hc | rfl | rfl | rfl
  · rw [Ky (hh.1 (by omega))]; exact h
  · exact chs hc
  · rw [G9 (hh.2.1 (by omega))]; exact h
  · rw [zy]
    refine (Res.bind h fun _=>Res.sure (P:=True) ?_ trivial).and_true
    rw [hs.2.2.2.2.1 (by omega)]
  · rw [G_ (hh.2.2 (by omega))]; exact h
theorem yP {u r:Toks} {x:Tok} {ts:List Tok} (h:u.map Prod.fst=x :: ts):peek (u++r)=x:=by
  cases u with
  | nil=>cases h
  | cons y u=>injection h with h1 h2
theorem len_app {u:Toks} {x:Tok} {ts:List Tok} (h:u.map Prod.fst=x :: ts):1≤u.length:=by
  cases u with
  | nil=>cases h
  | cons y u=>simp
theorem build {e:Exp} (h1:(e.level=0∨e.level=3∨e.level=4∨e.level=7∨e.level=8)→Tn e e.level) (h2:uT e.level→Tv e e.level) (h3:e.level=9→RD e) (hl:e.level≤9):All e:=by
  obtain ⟨x,ts,hT,hx⟩:=Km e
  have par:∀ n L,L+n=8→L≤e.level→Tn e L:=by
    intro n
    induction n with
    | zero =>
      intro L hn hle k d u r hu hk hs
      have:L=8:=by omega
      subst this
      by_cases h9:e.level=9
      · cases k with
        | zero=>omega
        | succ k =>
          rw [ql]
          refine (Res.bind (h3 h9 k d u r hu (by omega) hs.1) fun _=>Res.sure (P:=True) ?_ trivial).and_true
          rw [pA (hs.2.1 (by omega))]; rfl
      · have h8:e.level=8:=by omega
        have:=h1 (.inr (.inr (.inr (.inr h8))))
        rw [h8] at this
        exact this k d u r hu hk hs
    | succ n ih =>
      intro L hn hle k d u r hu hk hs
      by_cases hlt:L < e.level
      · have hp:=ih (L+1) (by omega) hlt
        cases k with
        | zero=>omega
        | succ k =>
          have hp2:=hp k d u r hu (by omega) (hs.le (by omega))
          refine down (by omega) (by have:=len_app (hu.trans hT); omega) hp2 ?_ hs
          rw [yP (hu.trans hT)]
          exact hx.le hlt
      · have he:e.level=L:=by omega
        rcases (show (L=0∨L=3∨L=4∨L=7∨L=8)∨uT L by unfold uT; omega) with hc | hc
        · have:=h1 (by rw [he]; exact hc)
          rw [he] at this
          exact this k d u r hu hk hs
        · have:=h2 (by rw [he]; exact hc)
          rw [he] at this
          obtain ⟨k',hk',hr⟩:=this k d u r hu hk (hs.le (by omega))
          refine (Res.trans hr fun _=>Res.sure (P:=True) (uF hc ?_ hs) trivial).and_true
          have:=len_app (hu.trans hT)
          omega
  refine ⟨fun L h8 hle=>par (8 - L) L (by omega) hle,fun L hc hle=>?_,h3⟩
  by_cases hlt:L < e.level
  · intro k d u r hu hk hs
    have h8:L+1≤8:=by unfold uT at hc; omega
    cases k with
    | zero=>unfold uT at hc; omega
    | succ k =>
      refine ⟨k,by have:=len_app (hu.trans hT); omega,?_⟩
      rw [qj hc]
      exact (Res.bind (par (8 - (L+1)) (L+1) (by omega) hlt k d u r hu (by omega) hs) fun _=>Res.sure (P:=True) rfl trivial).and_true
  · have he:e.level=L:=by omega
    have:=h2 (by rw [he]; exact hc)
    rw [he] at this
    exact this
end MX
end
section
set_option linter.all false
set_option maxRecDepth 10000
namespace MX
open Vbdeaa (Exp Exps Un Bin Tok Text Toks text sg wd unWord binSign binNeeds exp joins atom args peek isTok then_ give opens must joiner oneOf place)
theorem aR {u:Toks} {x:Tok} {ts:List Tok} (h:u.map Prod.fst=x :: ts):∃ p v,u=(x,p) :: v∧v.map Prod.fst=ts:=by
  cases u with
  | nil=>cases h
  | cons y u =>
    obtain ⟨a,p⟩:=y
    injection h with h1 h2
    subst h1
    exact ⟨p,u,rfl,h2⟩
theorem cG {u:Toks} {a b:List Tok} (h:u.map Prod.fst=a++b):∃ v w,u=v++w∧v.map Prod.fst=a∧w.map Prod.fst=b:=by
  obtain ⟨v,w,h1,h2,h3⟩:=List.map_eq_append_iff.mp h
  exact ⟨v,w,h1,h2,h3⟩
theorem Hq {k d p:Nat} (t:Toks):atom (k+1) d ((sg "(",p) :: t)=then_ (opens d) (fun e=>then_ (exp k e 0) fun a=>then_ (must (sg ")")) fun _=>give a) ((sg "(",p) :: t):=by
  rw [Vbdeaa.atom.eq_2]; rfl
theorem lX {e:Exp} (h:All e) {k d:Nat} {u r:Toks} (hu:u.map Prod.fst=sg "(" :: (T e++[sg ")"])) (hk:12 * u.length < k):Res (nest e+1≤d) (atom k d (u++r)) (.ok (e,r)):=by
  obtain ⟨p,v,rfl,hv⟩:=aR hu
  obtain ⟨w,x,rfl,hw,hx⟩:=cG hv
  obtain ⟨p2,y,rfl,hy⟩:=aR hx
  cases y with
  | cons a b=>cases hy
  | nil =>
    cases k with
    | zero=>omega
    | succ k =>
      simp only [List.length_cons,List.length_append,List.length_nil] at hk
      rw [List.cons_append,Hq,List.append_assoc]
      refine (Res.bind (e_ d _) fun h0=>Res.bind (h.par 0 (by omega) (by omega) k (d - 1) w ((sg ")",p2) :: ([]++r)) hw (by omega) (pD 0)) fun _=>Res.bind jT fun _=>dM e _).iff ?_
      simp only [and_true,true_and]; omega
theorem mz {e:Exp} (h:All e) {L:Nat} (hL:L≤8) {k d:Nat} {u r:Toks} (hu:u.map Prod.fst=cl e.level L (T e)) (hk:12 * u.length+(10 - L)≤k) (hs:Stop L (peek r)):Res (na e.level L (nest e)≤d) (exp k d L (u++r)) (.ok (e,r)):=by
  unfold cl at hu
  unfold na
  by_cases c:e.level < L
  · rw [if_pos c] at hu ⊢
    have hp:∀ n M,M+n=8→L≤M→∀ k,12 * u.length+(10 - M)≤k→Res (nest e+1≤d) (exp k d M (u++r)) (.ok (e,r)):=by
      intro n
      induction n with
      | zero =>
        intro M hn hM k hk
        have:M=8:=by omega
        subst this
        cases k with
        | zero=>omega
        | succ k =>
          rw [ql]
          refine (Res.bind (lX h hu (by omega)) fun _=>Res.sure (P:=True) ?_ trivial).and_true
          rw [pA (hs.2.1 (by omega))]; rfl
      | succ n ih =>
        intro M hn hM k hk
        cases k with
        | zero=>omega
        | succ k =>
          refine down (by omega) (by have:=len_app hu; omega) (ih (M+1) (by omega) (by omega) k (by omega)) ?_ (hs.le hM)
          rw [yP hu]
          exact iI.all (by decide) (by decide) (by decide) _
    exact hp (8 - L) L (by omega) (Nat.le_refl _) k hk
  · rw [if_neg c] at hu ⊢
    exact h.par L hL (by omega) k d u r hu hk hs
theorem Oo {e:Exp} (h:All e) (h9:e.level≤9) {k d:Nat} {u r:Toks} (hu:u.map Prod.fst=cl e.level 9 (T e)) (hk:12 * u.length < k) (hs:peek r≠sg "("):Res (na e.level 9 (nest e)≤d) (atom k d (u++r)) (.ok (e,r)):=by
  unfold cl at hu
  unfold na
  by_cases c:e.level < 9
  · rw [if_pos c] at hu ⊢
    exact lX h hu hk
  · rw [if_neg c] at hu ⊢
    exact h.atm (by omega) k d u r hu hk hs
theorem Rh {e:Exp} (h:All e) {L:Nat} (hc:uT L) {k d:Nat} {u r:Toks} (hu:u.map Prod.fst=cl e.level L (T e)) (hk:12 * u.length+(10 - L)≤k) (hs:Stop (L+1) (peek r)) :
    ∃ k',k≤k'+u.length∧Res (na e.level L (nest e)≤d) (exp k d L (u++r)) (joins k' d L e r):=by
  by_cases c:e.level < L
  · have e1:na e.level L (nest e)=na e.level (L+1) (nest e):=by unfold na; rw [if_pos c,if_pos (by omega)]
    have hu':u.map Prod.fst=cl e.level (L+1) (T e):=by rw [hu]; unfold cl; rw [if_pos c,if_pos (by omega)]
    have h8:L+1≤8:=by unfold uT at hc; omega
    cases k with
    | zero=>omega
    | succ k =>
      refine ⟨k,?_,?_⟩
      · have:=Dy (L:=L) (Km e)
        obtain ⟨x,ts,hx,_⟩:=this
        have:=len_app (hu.trans hx)
        omega
      · rw [qj hc,e1]
        exact (Res.bind (mz h h8 hu' (by omega) hs) fun _=>Res.sure (P:=True) rfl trivial).and_true
  · unfold cl at hu
    unfold na
    rw [if_neg c] at hu ⊢
    exact h.cho L hc (by omega) k d u r hu hk hs
theorem xV {e a b:Exp} {L:Nat} {o:Tok} (hc:uT L) (ha:All a) (hb:All b) (hT:T e=cl a.level L (T a)++(o :: cl b.level (L+1) (T b))) (hn:nest e=max (na a.level L (nest a)) (na b.level (L+1) (nest b)))
    (ho:Stop (L+1) o) (hj:∀ k d p t,joins (k+1) d L a ((o,p) :: t)=then_ (exp k d (L+1)) (fun b=>joins k d L (match e with | .and _ _=>.and a b | .or _ _=>.or a b | .bin o _ _=>.bin o a b | x=>x)) t)
    (he:(match e with | .and _ _=>.and a b | .or _ _=>.or a b | .bin o _ _=>.bin o a b | x=>x)=e):Tv e L:=by
  intro k d u r hu hk hs
  rw [hT] at hu
  obtain ⟨ua,v,rfl,hua,hv⟩:=cG hu
  obtain ⟨p,ub,rfl,hub⟩:=aR hv
  simp only [List.length_append,List.length_cons] at hk ⊢
  obtain ⟨k1,hk1,hr⟩:=Rh ha hc (k:=k) (d:=d) (u:=ua) (r:=(o,p) :: (ub++r)) hua (by omega) ho
  cases k1 with
  | zero=>unfold uT at hc; omega
  | succ k1 =>
    refine ⟨k1,by omega,?_⟩
    rw [List.append_assoc,List.cons_append]
    rw [hj] at hr
    refine (Res.trans hr fun _=>Res.bind (mz hb (by unfold uT at hc; omega) hub (by omega) hs) fun _=>Res.sure (P:=True) (by rw [he]) trivial).iff ?_
    rw [hn]
    simp only [and_true,true_and]; omega
theorem level_le (e:Exp):e.level≤9:=by
  cases e with
  | un o a=>cases o <;> exact Nat.le_of_ble_eq_true rfl
  | bin o a b=>cases o <;> exact Nat.le_of_ble_eq_true rfl
  | _=>exact Nat.le_of_ble_eq_true rfl
theorem km {e:Exp} (hl:e.level=9) (h:RD e):All e:=build (fun z=>by omega) (fun z=>by unfold uT at z; omega) (fun _=>h) (by omega)
theorem o8 {e:Exp} {L:Nat} (hl:e.level=L) (hL:L=0∨L=3∨L=4∨L=7∨L=8) (h:Tn e L):All e:=build (fun z=>by rw [hl]; exact h) (fun z=>by unfold uT at z; omega) (fun _=>by omega) (by omega)
theorem yj {e:Exp} {L:Nat} (hl:e.level=L) (hL:uT L) (h:Tv e L):All e:=build (fun z=>by unfold uT at hL; omega) (fun z=>by rw [hl]; exact h) (fun _=>by unfold uT at hL; omega) (by unfold uT at hL; omega)
theorem Ox (q:Vbdeaa.Q):All (.num q):=km rfl fun k d u r hu hk hs=>by
  obtain ⟨p,v,rfl,hv⟩:=aR hu
  cases v with
  | cons a b=>cases hv
  | nil =>
    cases k with
    | zero=>omega
    | succ k=>rw [Vbdeaa.atom.eq_2]; exact Res.sure rfl (Nat.zero_le _)
theorem K_ (n:Text):All (.name n):=km rfl fun k d u r hu hk hs=>by
  obtain ⟨p,v,rfl,hv⟩:=aR hu
  cases v with
  | cons a b=>cases hv
  | nil =>
    cases k with
    | zero=>omega
    | succ k =>
      rw [Vbdeaa.atom.eq_2]
      refine Res.sure ?_ (Nat.zero_le _)
      show (if isTok r (sg "(")=true then _ else _)=_
      rw [pA hs]; rfl
theorem OD {a:Exp} (h:All a):All (.un .neg a):=o8 (L:=7) rfl (by omega) fun k d u r hu hk hs=>by
  obtain ⟨p,v,rfl,hv⟩:=aR hu
  simp only [List.length_cons] at hk
  cases k with
  | zero=>omega
  | succ k =>
    have e1:exp (k+1) d 7 ((sg "-",p) :: v++r)=then_ (opens d) (fun e=>then_ (exp k e 7) fun a=>give (Exp.un .neg a)) ((sg "-",p) :: v++r):=by rw [Vbdeaa.exp.eq_2]; rfl
    rw [e1]
    refine (Res.bind (e_ d _) fun h0=>Res.bind (mz h (by omega) (k:=k) (u:=v) (r:=r) hv (by omega) hs) fun _=>dM (Exp.un .neg a) _).iff ?_
    show _↔na a.level 7 (nest a)+1≤d
    simp only [and_true,true_and]; omega
theorem Oz {a:Exp} (h:All a):All (.un .not a):=o8 (L:=3) rfl (by omega) fun k d u r hu hk hs=>by
  obtain ⟨p,v,rfl,hv⟩:=aR hu
  simp only [List.length_cons] at hk
  cases k with
  | zero=>omega
  | succ k =>
    have e1:exp (k+1) d 3 ((wd "not",p) :: v++r)=then_ (opens d) (fun e=>then_ (exp k e 3) fun a=>give (Exp.un .not a)) ((wd "not",p) :: v++r):=by rw [Vbdeaa.exp.eq_2]; rfl
    rw [e1]
    refine (Res.bind (e_ d _) fun h0=>Res.bind (mz h (by omega) (k:=k) (u:=v) (r:=r) hv (by omega) hs) fun _=>dM (Exp.un .not a) _).iff ?_
    show _↔na a.level 3 (nest a)+1≤d
    simp only [and_true,true_and]; omega
theorem Rp {o:Un} {a:Exp} (ho:mX o=true) (h:All a):All (.un o a):=by
  have hl:(Exp.un o a).level=9:=by cases o <;> first | rfl | cases ho
  have hn:nest (.un o a)=nest a+1:=by cases o <;> first | rfl | cases ho
  refine km hl fun k d u r hu hk hs=>?_
  rw [(tU ho a).2] at hu
  obtain ⟨p,v,rfl,hv⟩:=aR hu
  obtain ⟨p1,v1,rfl,hv1⟩:=aR hv
  obtain ⟨w,x,rfl,hw,hx⟩:=cG hv1
  obtain ⟨p2,y,rfl,hy⟩:=aR hx
  cases y with
  | cons a b=>cases hy
  | nil =>
    simp only [List.length_cons,List.length_append,List.length_nil] at hk
    cases k with
    | zero=>omega
    | succ k =>
      have e1:atom (k+1) d ((wd (unWord o),p) :: (sg "(",p1) :: (w++[(sg ")",p2)])++r)=then_ (opens d) (fun e=>then_ (exp k e 0) fun a=>then_ (must (sg ")")) fun _=>give (Exp.un o a)) ((sg "(",p1) :: (w++((sg ")",p2) :: r))):=by
        rw [Vbdeaa.atom.eq_2]
        have ea:w++[(sg ")",p2)]++r=w++((sg ")",p2) :: r):=by simp
        rw [List.cons_append,List.cons_append,ea]
        cases o <;> first | rfl | cases ho
      rw [e1,hn]
      refine (Res.bind (e_ d _) fun h0=>Res.bind (h.par 0 (by omega) (by omega) k (d - 1) w ((sg ")",p2) :: r) hw (by omega) (pD 0)) fun _=>Res.bind jT fun _=>dM (Exp.un o a) _).iff ?_
      simp only [and_true,true_and]; omega
theorem La {c a b:Exp} (hc:All c) (ha:All a) (hb:All b):All (.cond c a b):=o8 (L:=0) rfl (by omega) fun k d u r hu hk hs=>by
  obtain ⟨p,v,rfl,hv⟩:=aR hu
  obtain ⟨uc,v1,rfl,huc,hv1⟩:=cG hv
  obtain ⟨p1,v2,rfl,hv2⟩:=aR hv1
  obtain ⟨ua,v3,rfl,hua,hv3⟩:=cG hv2
  obtain ⟨p2,ub,rfl,hub⟩:=aR hv3
  simp only [List.length_cons,List.length_append] at hk
  cases k with
  | zero=>omega
  | succ k =>
    have ea:(wd "if",p) :: (uc++((wd "then",p1) :: (ua++((wd "else",p2) :: ub))))++r=(wd "if",p) :: (uc++((wd "then",p1) :: (ua++((wd "else",p2) :: (ub++r))))):=by simp
    have e1:∀ t:Toks,exp (k+1) d 0 ((wd "if",p) :: t)=then_ (opens d) (fun e=>then_ (exp k e 0) fun c=>then_ (must (wd "then")) fun _=>then_ (exp k e 0) fun a=>then_ (must (wd "else")) fun _=>then_ (exp k e 0) fun b=>give (Exp.cond c a b)) ((wd "if",p) :: t):=fun t=>by rw [Vbdeaa.exp.eq_2]; rfl
    rw [ea,e1]
    refine (Res.bind (e_ d _) fun h0=>Res.bind (hc.par 0 (by omega) (by omega) k (d - 1) uc ((wd "then",p1) :: (ua++((wd "else",p2) :: (ub++r)))) huc (by omega) (Ep 0)) fun _=>Res.bind jT fun _ =>
      Res.bind (ha.par 0 (by omega) (by omega) k (d - 1) ua ((wd "else",p2) :: (ub++r)) hua (by omega) (Er 0)) fun _=>Res.bind jT fun _=>Res.bind (hb.par 0 (by omega) (by omega) k (d - 1) ub r hub (by omega) hs) fun _=>dM (Exp.cond c a b) _).iff ?_
    show _↔max (nest c) (max (nest a) (nest b))+1≤d
    simp only [and_true,true_and]; omega
theorem O1 {a b:Exp} (ha:All a) (hb:All b):All (.and a b):=yj (L:=2) rfl (.inr (.inl rfl)) (xV (o:=wd "and") (.inr (.inl rfl)) ha hb rfl rfl (by refine ⟨by decide,fun _=>by decide,fun _=>by decide,fun _=>by decide,fun _=>by decide,fun z=>by omega,fun z=>by omega⟩) (fun k d p t=>by rw [Vbdeaa.joins.eq_2]; rfl) rfl)
theorem Rq {a b:Exp} (ha:All a) (hb:All b):All (.or a b):=yj (L:=1) rfl (.inl rfl) (xV (o:=wd "or") (.inl rfl) ha hb rfl rfl (by refine ⟨by decide,fun _=>by decide,fun _=>by decide,fun _=>by decide,fun _=>by decide,fun z=>by decide,fun z=>by omega⟩) (fun k d p t=>by rw [Vbdeaa.joins.eq_2]; rfl) rfl)
theorem Ow {a b:Exp} (ha:All a) (hb:All b):All (.bin .pow a b):=o8 (L:=8) rfl (by omega) fun k d u r hu hk hs=>by
  have hu:u.map Prod.fst=cl a.level 9 (T a)++(sg "^" :: cl b.level 7 (T b)):=hu
  obtain ⟨ua,v,rfl,hua,hv⟩:=cG hu
  obtain ⟨p,ub,rfl,hub⟩:=aR hv
  simp only [List.length_append,List.length_cons] at hk
  cases k with
  | zero=>omega
  | succ k =>
    rw [ql,List.append_assoc,List.cons_append]
    have e1:∀ (x:Exp) (t:Toks),(if isTok ((sg "^",p) :: t) (sg "^")=true then (then_ (opens d) fun e=>then_ (exp k e 7) fun b=>give (Exp.bin .pow x b)) ((sg "^",p) :: t) else .ok (x,((sg "^",p) :: t)))=(then_ (opens d) fun e=>then_ (exp k e 7) fun b=>give (Exp.bin .pow x b)) ((sg "^",p) :: t):=fun x t=>rfl
    have hs7:Stop 7 (peek r):=⟨hs.1,fun _=>hs.2.1 (by omega),fun z=>by omega,fun z=>by omega,fun z=>by omega,fun z=>by omega,fun z=>by omega⟩
    refine (Res.bind (Oo ha (level_le a) (k:=k) (d:=d) (u:=ua) (r:=(sg "^",p) :: (ub++r)) hua (by omega) (show sg "^"≠sg "(" by decide)) (Q:=0 < d∧na b.level 7 (nest b)≤d - 1∧True) fun _=>?_).iff ?_
    · show Res _ (if isTok ((sg "^",p) :: (ub++r)) (sg "^")=true then _ else _) _
      rw [e1]
      exact Res.bind (e_ d _) fun h0=>Res.bind (mz hb (by omega) (k:=k) (u:=ub) (r:=r) hub (by omega) hs7) fun _=>dM (Exp.bin .pow a b) _
    · show _↔max (na a.level 9 (nest a)) (na b.level 7 (nest b)+1)≤d
      simp only [and_true,true_and]; omega
theorem lH {o:Bin} {a b:Exp} (ho:joiner 4 (bF o)=some o∧binNeeds o=(5,5)∧(o≠.pow)∧(∀ a b,(Exp.bin o a b).level=4)∧joiner 5 (bF o)=none∧joiner 6 (bF o)=none∧bF o≠sg "("∧bF o≠sg "^") (ha:All a) (hb:All b):All (.bin o a b):=by
  obtain ⟨h1,h2,h3,h4,h5,h6,h7,h8⟩:=ho
  refine o8 (L:=4) (h4 a b) (by omega) fun k d u r hu hk hs=>?_
  have hu:u.map Prod.fst=cl a.level (binNeeds o).1 (T a)++(bF o :: cl b.level (binNeeds o).2 (T b)):=hu
  rw [h2] at hu
  obtain ⟨ua,v,rfl,hua,hv⟩:=cG hu
  obtain ⟨p,ub,rfl,hub⟩:=aR hv
  simp only [List.length_append,List.length_cons] at hk
  cases k with
  | zero=>omega
  | succ k =>
    rw [zy,List.append_assoc,List.cons_append]
    have hua:ua.map Prod.fst=cl a.level 5 (T a):=hua
    have hub:ub.map Prod.fst=cl b.level 5 (T b):=hub
    refine (Res.bind (mz ha (L:=5) (by omega) (k:=k) (d:=d) (u:=ua) (r:=(bF o,p) :: (ub++r)) hua (by omega) ⟨h7,fun _=>h8,fun _=>h6,fun _=>h5,fun z=>by omega,fun z=>by omega,fun z=>by omega⟩) (Q:=na b.level 5 (nest b)≤d∧True) fun _=>?_).iff ?_
    · have e1:peek ((bF o,p) :: (ub++r))=bF o:=rfl
      simp only [e1,h1,List.drop_succ_cons,List.drop_zero]
      exact Res.bind (mz hb (L:=5) (by omega) (k:=k) (u:=ub) (r:=r) hub (by omega) (hs.le (by omega))) fun _=>dM (Exp.bin o a b) _
    · have:nest (.bin o a b)=max (na a.level (binNeeds o).1 (nest a)) (na b.level (binNeeds o).2 (nest b)+(if o=.pow then 1 else 0)):=rfl
      rw [this,h2,if_neg h3]
      show _↔max (na a.level 5 (nest a)) (na b.level 5 (nest b)+0)≤d
      simp only [and_true,true_and]; omega
theorem lG {o:Bin} {a b:Exp} {L:Nat} (hL:uT L) (ho:joiner L (bF o)=some o∧binNeeds o=(L,L+1)∧(o≠.pow)∧(∀ a b,(Exp.bin o a b).level=L)∧Stop (L+1) (bF o)) (h3:3≤L) (ha:All a) (hb:All b):All (.bin o a b):=by
  obtain ⟨h1,h2,hp,h4,h5⟩:=ho
  refine yj (h4 a b) hL (xV (o:=bF o) hL ha hb ?_ ?_ h5 (fun k d p t=>?_) rfl)
  · show cl a.level (binNeeds o).1 (T a)++(bF o :: cl b.level (binNeeds o).2 (T b))=_
    rw [h2]
  · show max (na a.level (binNeeds o).1 (nest a)) (na b.level (binNeeds o).2 (nest b)+(if o=.pow then 1 else 0))=_
    rw [h2,if_neg hp]; rfl
  · rw [Vbdeaa.joins.eq_2]
    have e1:peek ((bF o,p) :: t)=bF o:=rfl
    simp only [e1,h1,List.drop_succ_cons,List.drop_zero]
    rw [if_neg (by omega),if_neg (by omega)]
theorem OJ (o:Bin) {a b:Exp} (ha:All a) (hb:All b):All (.bin o a b):=by
  cases o with
  | pow=>exact Ow ha hb
  | eq=>exact lH ⟨by decide,by decide,by decide,fun _ _=>rfl,by decide,by decide,by decide,by decide⟩ ha hb
  | ne=>exact lH ⟨by decide,by decide,by decide,fun _ _=>rfl,by decide,by decide,by decide,by decide⟩ ha hb
  | lt=>exact lH ⟨by decide,by decide,by decide,fun _ _=>rfl,by decide,by decide,by decide,by decide⟩ ha hb
  | le=>exact lH ⟨by decide,by decide,by decide,fun _ _=>rfl,by decide,by decide,by decide,by decide⟩ ha hb
  | gt=>exact lH ⟨by decide,by decide,by decide,fun _ _=>rfl,by decide,by decide,by decide,by decide⟩ ha hb
  | ge=>exact lH ⟨by decide,by decide,by decide,fun _ _=>rfl,by decide,by decide,by decide,by decide⟩ ha hb
  | add=>exact lG (L:=5) (.inr (.inr (.inl rfl))) ⟨by decide,by decide,by decide,fun _ _=>rfl,by decide,fun _=>by decide,fun _=>by decide,fun z=>by omega,fun z=>by omega,fun z=>by omega,fun z=>by omega⟩ (by omega) ha hb
  | sub=>exact lG (L:=5) (.inr (.inr (.inl rfl))) ⟨by decide,by decide,by decide,fun _ _=>rfl,by decide,fun _=>by decide,fun _=>by decide,fun z=>by omega,fun z=>by omega,fun z=>by omega,fun z=>by omega⟩ (by omega) ha hb
  | mul=>exact lG (L:=6) (.inr (.inr (.inr rfl))) ⟨by decide,by decide,by decide,fun _ _=>rfl,by decide,fun _=>by decide,fun z=>by omega,fun z=>by omega,fun z=>by omega,fun z=>by omega,fun z=>by omega⟩ (by omega) ha hb
  | div=>exact lG (L:=6) (.inr (.inr (.inr rfl))) ⟨by decide,by decide,by decide,fun _ _=>rfl,by decide,fun _=>by decide,fun z=>by omega,fun z=>by omega,fun z=>by omega,fun z=>by omega,fun z=>by omega⟩ (by omega) ha hb
  | quo=>exact lG (L:=6) (.inr (.inr (.inr rfl))) ⟨by decide,by decide,by decide,fun _ _=>rfl,by decide,fun _=>by decide,fun z=>by omega,fun z=>by omega,fun z=>by omega,fun z=>by omega,fun z=>by omega⟩ (by omega) ha hb
  | rem=>exact lG (L:=6) (.inr (.inr (.inr rfl))) ⟨by decide,by decide,by decide,fun _ _=>rfl,by decide,fun _=>by decide,fun z=>by omega,fun z=>by omega,fun z=>by omega,fun z=>by omega,fun z=>by omega⟩ (by omega) ha hb
def Lf:Exps→Prop
  | .nil=>True
  | .cons e l=>All e∧Lf l
theorem uY:∀ (l:Exps),l≠.nil→Lf l→∀ (k d:Nat) (u r:Toks),u.map Prod.fst=TA l++[sg ")"]→12 * u.length+11≤k→Res (jx l≤d) (args k d (u++r)) (.ok (l,r))
  | .nil,hne,_,_,_,_,_,_,_=>absurd rfl hne
  | .cons e .nil,_,h,k,d,u,r,hu,hk=>by
    obtain ⟨w,x,rfl,hw,hx⟩:=cG hu
    obtain ⟨p2,y,rfl,hy⟩:=aR hx
    cases y with
    | cons a b=>cases hy
    | nil =>
      simp only [List.length_cons,List.length_append,List.length_nil] at hk
      cases k with
      | zero=>omega
      | succ k =>
        rw [Vbdeaa.args.eq_2,List.append_assoc]
        refine (Res.bind (h.1.par 0 (by omega) (by omega) k d w ((sg ")",p2) :: ([]++r)) hw (by omega) (pD 0)) (Q:=True∧True) fun _=>?_).iff ?_
        · show Res _ (if isTok ((sg ")",p2) :: r) (sg ",")=true then _ else _) _
          have:isTok ((sg ")",p2) :: r) (sg ",")=false:=rfl
          rw [this]
          show Res _ (then_ (must (sg ")")) (fun _=>give (Exps.cons e .nil)) ((sg ")",p2) :: r)) _
          exact Res.bind jT fun _=>dM (Exps.cons e .nil) _
        · show _↔max (nest e) 0≤d
          simp only [and_true,true_and]; omega
  | .cons e (.cons f l),_,h,k,d,u,r,hu,hk=>by
    have hu:u.map Prod.fst=T e++(sg "," :: TA (.cons f l))++[sg ")"]:=hu
    rw [List.append_assoc,List.cons_append] at hu
    obtain ⟨w,x,rfl,hw,hx⟩:=cG hu
    obtain ⟨p2,y,rfl,hy⟩:=aR hx
    simp only [List.length_cons,List.length_append,List.length_nil] at hk
    cases k with
    | zero=>omega
    | succ k =>
      rw [Vbdeaa.args.eq_2,List.append_assoc]
      refine (Res.bind (h.1.par 0 (by omega) (by omega) k d w ((sg ",",p2) :: (y++r)) hw (by omega) (Ai 0)) (Q:=jx (.cons f l)≤d∧True) fun _=>?_).iff ?_
      · show Res _ (if isTok ((sg ",",p2) :: (y++r)) (sg ",")=true then _ else _) _
        have:isTok ((sg ",",p2) :: (y++r)) (sg ",")=true:=rfl
        rw [this,if_pos rfl]
        exact Res.bind (uY (.cons f l) (by simp) h.2 k d y r hy (by omega)) fun _=>dM (Exps.cons e (.cons f l)) _
      · show _↔max (nest e) (jx (.cons f l))≤d
        simp only [and_true,true_and]; omega
theorem Ov {n:Text} {l:Exps} (hl:l≠.nil) (h:Lf l):All (.use n l):=km rfl fun k d u r hu hk hs=>by
  obtain ⟨p,v,rfl,hv⟩:=aR hu
  obtain ⟨p1,v1,rfl,hv1⟩:=aR hv
  simp only [List.length_cons] at hk
  cases k with
  | zero=>omega
  | succ k =>
    have e1:atom (k+1) d ((.name n,p) :: (sg "(",p1) :: v1++r)=then_ (opens d) (fun e=>then_ (args k e) fun l=>give (Exp.use n l)) ((sg "(",p1) :: (v1++r)):=by rw [Vbdeaa.atom.eq_2]; rfl
    rw [e1]
    refine (Res.bind (e_ d _) fun h0=>Res.bind (uY l hl h k (d - 1) v1 r hv1 (by omega)) fun _=>dM (Exp.use n l) _).iff ?_
    show _↔jx l+1≤d
    simp only [and_true,true_and]; omega
theorem Lb {g:Bool} {l:Exps} (hl:l≠.nil) (h:Lf l):All (.best g l):=km rfl fun k d u r hu hk hs=>by
  obtain ⟨p,v,rfl,hv⟩:=aR hu
  obtain ⟨p1,v1,rfl,hv1⟩:=aR hv
  simp only [List.length_cons] at hk
  cases k with
  | zero=>omega
  | succ k =>
    have e1:atom (k+1) d ((wd (if g=true then "max" else "min"),p) :: (sg "(",p1) :: v1++r)=then_ (opens d) (fun e=>then_ (args k e) fun l=>give (Exp.best g l)) ((sg "(",p1) :: (v1++r)):=by
      rw [Vbdeaa.atom.eq_2]
      cases g <;> rfl
    rw [e1]
    refine (Res.bind (e_ d _) fun h0=>Res.bind (uY l hl h k (d - 1) v1 r hv1 (by omega)) fun _=>dM (Exp.best g l) _).iff ?_
    show _↔jx l+1≤d
    simp only [and_true,true_and]; omega
mutual
theorem eX:∀ (e:Exp),i_ e→All e
  | .num q,_=>Ox q
  | .name n,_=>K_ n
  | .un o a,h=>by
    have ih:=eX a h
    by_cases hp:mX o=true
    · exact Rp hp ih
    · cases o with
      | neg=>exact OD ih
      | not=>exact Oz ih
      | _=>exact absurd rfl hp
  | .bin o a b,h=>OJ o (eX a h.1) (eX b h.2)
  | .and a b,h=>O1 (eX a h.1) (eX b h.2)
  | .or a b,h=>Rq (eX a h.1) (eX b h.2)
  | .cond c a b,h=>La (eX c h.1) (eX a h.2.1) (eX b h.2.2)
  | .best g l,h=>Lb h.2 (uZ l h.1)
  | .use n l,h=>Ov h.2.2 (uZ l h.2.1)
theorem uZ:∀ (l:Exps),yl l→Lf l
  | .nil,_=>trivial
  | .cons e l,h=>⟨eX e h.1,uZ l h.2⟩
end
theorem ug {e:Exp} (h:i_ e):Res (nest e≤32) (Vbdeaa.readExp e.shown) (.ok e):=by
  have ht:=Ae h
  obtain ⟨u,x,hux,hu,hx⟩:=cG ht
  obtain ⟨p,y,rfl,hy⟩:=aR hx
  cases y with
  | cons a b=>cases hy
  | nil =>
    have:=(eX e h).par 0 (by omega) (by omega) (Vbdeaa.enough (u++[(Tok.eof,p)])) 32 u [(Tok.eof,p)] hu (by unfold Vbdeaa.enough; simp only [List.length_append,List.length_cons,List.length_nil]; omega) (Ib 0)
    unfold Vbdeaa.readExp
    rw [hux]
    refine ⟨fun hn=>?_,fun hn=>?_⟩
    · have e1:=this.1 hn
      show (match exp (Vbdeaa.enough (u++[(Tok.eof,p)])) 32 0 (u++[(Tok.eof,p)]) with | .error p=>_ | .ok (e,r)=>_)=_
      rw [e1]; rfl
    · obtain ⟨l,e1⟩:=this.2 hn
      refine ⟨l,?_⟩
      show (match exp (Vbdeaa.enough (u++[(Tok.eof,p)])) 32 0 (u++[(Tok.eof,p)]) with | .error p=>_ | .ok (e,r)=>_)=_
      rw [e1]
theorem xf {e:Exp} (h:i_ e):Vbdeam.readable e=true↔e.height≤32∧nest e≤32:=by
  unfold Vbdeam.readable
  rw [Bool.and_eq_true,decide_eq_true_eq]
  refine and_congr Iff.rfl ?_
  by_cases hn:nest e≤32
  · rw [(ug h).1 hn]
    simp only [hn]
  · obtain ⟨p,e1⟩:=(ug h).2 hn
    rw [e1]
    simp [hn]
end MX
end
section
set_option linter.all false
set_option maxRecDepth 10000
namespace MX
open Vbdeaa (Exp Exps Un Bin Ins Code Text)
open Vbdeam (plain orParts andParts ifParts size sizeAll joinBest argName)
def qF (t:Text):Prop:=Vbdeaa.isName t=true∧∀ c∈t,0≤c
def oH (t:Text):Bool:=Vbdeaa.isName t && t.all fun c=>decide (0≤c)
theorem pW {t:Text} (h:oH t=true):qF t:=by
  unfold oH at h
  rw [Bool.and_eq_true] at h
  exact ⟨h.1,fun c hc=>of_decide_eq_true (List.all_eq_true.mp h.2 c hc)⟩
theorem Ot:((List.range 8).all fun i=>oH (argName i))=true:=by decide +kernel
theorem tabs_ok:((List.range 64).all fun i=>oH (Vbdeam.nameOf 10 i) && oH (Vbdeam.nameOf 11 i))=true:=by decide +kernel
theorem Rm {i:Nat} (h:i < 8):qF (argName i):=pW (List.all_eq_true.mp Ot i (List.mem_range.mpr h))
theorem pB {i:Nat} (h:i < 64):qF (Vbdeam.nameOf 10 i)∧qF (Vbdeam.nameOf 11 i):=by
  have:=List.all_eq_true.mp tabs_ok i (List.mem_range.mpr h)
  rw [Bool.and_eq_true] at this
  exact ⟨pW this.1,pW this.2⟩
theorem Kw {l:List Exp} (h:∀ e∈l,i_ e):yl (Vbdeam.exps l):=by
  induction l with
  | nil=>exact trivial
  | cons x r ih=>exact ⟨h x List.mem_cons_self,ih fun e he=>h e (List.mem_cons_of_mem _ he)⟩
theorem Kd {g:Bool} {x y:Exp} (hx:i_ x) (hy:i_ y):i_ (joinBest g x y):=by
  unfold Vbdeam.joinBest
  split
  · rename_i h l
    split
    · exact ⟨⟨hx,hy.1⟩,by simp⟩
    · exact ⟨⟨hx,hy,trivial⟩,by simp⟩
  · exact ⟨⟨hx,hy,trivial⟩,by simp⟩
theorem Fp {n:Nat} (hn:n≤8) (hr:∀ k t,Vbdeam.readName k=some t→qF t) {i:Ins} {st t:List Exp} (hs:∀ e∈st,i_ e) (h:plain n i st=some t):∀ e∈t,i_ e:=by
  have tl:∀ {x:Exp} {r:List Exp},i_ x→(∀ e∈r,i_ e)→∀ e∈x :: r,i_ e:=fun hx hr e he=>by
    rcases List.mem_cons.mp he with rfl | he
    · exact hx
    · exact hr e he
  cases i with
  | push q =>
    unfold Vbdeam.plain at h; simp only at h
    split at h
    · next hq=>cases h; exact tl hq hs
    · cases h
  | arg k =>
    unfold Vbdeam.plain at h; simp only at h
    split at h
    · next hq=>cases h; exact tl (Rm (by omega)) hs
    · cases h
  | var k =>
    unfold Vbdeam.plain at h; simp only at h
    obtain ⟨x,hx,e⟩:=Option.map_eq_some_iff.mp h
    subst e
    exact tl (hr k x hx) hs
  | un o =>
    cases st with
    | nil=>cases h
    | cons x st=>cases h; exact tl (hs x List.mem_cons_self) fun e he=>hs e (List.mem_cons_of_mem _ he)
  | bin o =>
    match st,h,hs with
    | y :: x :: st,h,hs=>cases h; exact tl ⟨hs x (List.mem_cons_of_mem _ List.mem_cons_self),hs y List.mem_cons_self⟩ fun e he=>hs e (List.mem_cons_of_mem _ (List.mem_cons_of_mem _ he))
  | table k =>
    cases st with
    | nil=>cases h
    | cons x st =>
      unfold Vbdeam.plain at h; simp only at h
      split at h
      · next hk=>cases h; exact tl ⟨(pB hk).1,⟨hs x List.mem_cons_self,trivial⟩,by simp⟩ fun e he=>hs e (List.mem_cons_of_mem _ he)
      · cases h
  | call f m =>
    unfold Vbdeam.plain at h; simp only at h
    split at h
    · cases h
    · next hc =>
      split at h
      · cases h; exact tl (pB (by omega)).2 hs
      · next hm =>
        cases h
        refine tl ⟨(pB (by omega)).2,Kw fun e he=>hs e (List.mem_of_mem_take (List.mem_reverse.mp he)),?_⟩ fun e he=>hs e (List.mem_of_mem_drop he)
        intro z
        have hlen:(st.take m).reverse.length=m:=by rw [List.length_reverse,List.length_take]; omega
        cases hq:(st.take m).reverse with
        | nil=>rw [hq] at hlen; exact hm hlen.symm
        | cons a b=>rw [hq] at z; cases z
  | best g =>
    match st,h,hs with
    | y :: x :: st,h,hs=>cases h; exact tl (Kd (hs x (List.mem_cons_of_mem _ List.mem_cons_self)) (hs y List.mem_cons_self)) fun e he=>hs e (List.mem_cons_of_mem _ (List.mem_cons_of_mem _ he))
  | zero k=>rw [gJ] at h; cases h
  | jump k=>rw [ji] at h; cases h
  | truth=>rw [ik] at h; cases h
theorem Mm {n:Nat} (hn:n≤8) (hr:∀ k t,Vbdeam.readName k=some t→qF t) {c:Code} {st:List Exp} {e:Exp} (h:Run n c st e):(∀ x∈st,i_ x)→i_ e:=by
  have tl:∀ {x:Exp} {r:List Exp},i_ x→(∀ e∈r,i_ e)→∀ e∈x :: r,i_ e:=fun hx hr e he=>by
    rcases List.mem_cons.mp he with rfl | he
    · exact hx
    · exact hr e he
  have nn:∀ x∈([]:List Exp),i_ x:=fun x hx=>by cases hx
  induction h with
  | done e=>exact fun hs=>hs e List.mem_cons_self
  | plain hp _ ih=>exact fun hs=>ih (Fp hn hr hs hp)
  | or_ _ _ _ ih1 ih2=>exact fun hs=>ih2 (tl ⟨hs _ List.mem_cons_self,ih1 nn⟩ fun e he=>hs e (List.mem_cons_of_mem _ he))
  | and_ _ _ _ ih1 ih2=>exact fun hs=>ih2 (tl ⟨hs _ List.mem_cons_self,ih1 nn⟩ fun e he=>hs e (List.mem_cons_of_mem _ he))
  | if_ _ _ _ _ ih1 ih2 ih3=>exact fun hs=>ih3 (tl ⟨hs _ List.mem_cons_self,ih1 nn,ih2 nn⟩ fun e he=>hs e (List.mem_cons_of_mem _ he))
end MX
end
section
set_option linter.all false
set_option maxRecDepth 10000
namespace MX
open Vbdeaa (Exp Exps Un Bin Ins Code Text)
open Vbdeam (plain orParts andParts ifParts size sizeAll joinBest argName)
inductive S8 (n:Nat):Text→Prop
  | arg {i:Nat}:i < n→S8 n (argName i)
  | read {k:Nat} {t:Text}:Vbdeam.readName k=some t→S8 n t
  | form {f:Nat}:f < 64→S8 n (Vbdeam.nameOf 11 f)
inductive Tu:Text→Nat→Prop
  | form {f m:Nat}:f < 64→m≤8→Tu (Vbdeam.nameOf 11 f) m
  | table {t:Nat}:t < 64→Tu (Vbdeam.nameOf 10 t) 1
mutual
def Kn (n:Nat):Exp→Prop
  | .num _=>True
  | .name t=>S8 n t
  | .un _ a=>Kn n a
  | .bin _ a b=>Kn n a∧Kn n b
  | .and a b=>Kn n a∧Kn n b
  | .or a b=>Kn n a∧Kn n b
  | .cond c a b=>Kn n c∧Kn n a∧Kn n b
  | .best _ l=>RC n l
  | .use t l=>Tu t l.length∧RC n l
def RC (n:Nat):Exps→Prop
  | .nil=>True
  | .cons e l=>Kn n e∧RC n l
end
theorem Ob {n:Nat} {l:List Exp} (h:∀ e∈l,Kn n e):RC n (Vbdeam.exps l):=by
  induction l with
  | nil=>exact trivial
  | cons x r ih=>exact ⟨h x List.mem_cons_self,ih fun e he=>h e (List.mem_cons_of_mem _ he)⟩
theorem Kv (l:List Exp):(Vbdeam.exps l).length=l.length:=by
  induction l with
  | nil=>rfl
  | cons x r ih=>show (Vbdeam.exps r).length+1=_; rw [ih]; rfl
theorem NQ {n:Nat} {g:Bool} {x y:Exp} (hx:Kn n x) (hy:Kn n y):Kn n (joinBest g x y):=by
  unfold Vbdeam.joinBest
  split
  · rename_i h l
    split
    · exact ⟨hx,hy⟩
    · exact ⟨hx,hy,trivial⟩
  · exact ⟨hx,hy,trivial⟩
theorem Jw {n:Nat} {i:Ins} {st t:List Exp} (hs:∀ e∈st,Kn n e) (h:plain n i st=some t):∀ e∈t,Kn n e:=by
  have tl:∀ {x:Exp} {r:List Exp},Kn n x→(∀ e∈r,Kn n e)→∀ e∈x :: r,Kn n e:=fun hx hr e he=>by
    rcases List.mem_cons.mp he with rfl | he
    · exact hx
    · exact hr e he
  cases i with
  | push q =>
    unfold Vbdeam.plain at h; simp only at h
    split at h
    · cases h; exact tl (x:=.num q) trivial hs
    · cases h
  | arg k =>
    unfold Vbdeam.plain at h; simp only at h
    split at h
    · next hq=>cases h; exact tl (x:=.name _) (.arg hq) hs
    · cases h
  | var k =>
    unfold Vbdeam.plain at h; simp only at h
    obtain ⟨x,hx,e⟩:=Option.map_eq_some_iff.mp h
    subst e
    exact tl (x:=.name _) (.read hx) hs
  | un o =>
    cases st with
    | nil=>cases h
    | cons x st=>cases h; exact tl (x:=.un o x) (hs x List.mem_cons_self) fun e he=>hs e (List.mem_cons_of_mem _ he)
  | bin o =>
    match st,h,hs with
    | y :: x :: st,h,hs=>cases h; exact tl (x:=.bin o x y) ⟨hs x (List.mem_cons_of_mem _ List.mem_cons_self),hs y List.mem_cons_self⟩ fun e he=>hs e (List.mem_cons_of_mem _ (List.mem_cons_of_mem _ he))
  | table k =>
    cases st with
    | nil=>cases h
    | cons x st =>
      unfold Vbdeam.plain at h; simp only at h
      split at h
      · next hk=>cases h; exact tl (x:=.use _ (.cons x .nil)) ⟨.table hk,hs x List.mem_cons_self,trivial⟩ fun e he=>hs e (List.mem_cons_of_mem _ he)
      · cases h
  | call f m =>
    unfold Vbdeam.plain at h; simp only at h
    split at h
    · cases h
    · next hc =>
      split at h
      · cases h; exact tl (x:=.name _) (.form (by omega)) hs
      · next hm =>
        cases h
        have hlen:(st.take m).reverse.length=m:=by rw [List.length_reverse,List.length_take]; omega
        refine tl (x:=.use _ _) ⟨?_,Ob fun e he=>hs e (List.mem_of_mem_take (List.mem_reverse.mp he))⟩ fun e he=>hs e (List.mem_of_mem_drop he)
        rw [Kv,hlen]
        exact .form (by omega) (by omega)
  | best g =>
    match st,h,hs with
    | y :: x :: st,h,hs=>cases h; exact tl (NQ (hs x (List.mem_cons_of_mem _ List.mem_cons_self)) (hs y List.mem_cons_self)) fun e he=>hs e (List.mem_cons_of_mem _ (List.mem_cons_of_mem _ he))
  | zero k=>rw [gJ] at h; cases h
  | jump k=>rw [ji] at h; cases h
  | truth=>rw [ik] at h; cases h
theorem Qx {n:Nat} {c:Code} {st:List Exp} {e:Exp} (h:Run n c st e):(∀ x∈st,Kn n x)→Kn n e:=by
  have tl:∀ {x:Exp} {r:List Exp},Kn n x→(∀ e∈r,Kn n e)→∀ e∈x :: r,Kn n e:=fun hx hr e he=>by
    rcases List.mem_cons.mp he with rfl | he
    · exact hx
    · exact hr e he
  have nn:∀ x∈([]:List Exp),Kn n x:=fun x hx=>by cases hx
  induction h with
  | done e=>exact fun hs=>hs e List.mem_cons_self
  | plain hp _ ih=>exact fun hs=>ih (Jw hs hp)
  | or_ _ _ _ ih1 ih2=>exact fun hs=>ih2 (tl (x:=.or _ _) ⟨hs _ List.mem_cons_self,ih1 nn⟩ fun e he=>hs e (List.mem_cons_of_mem _ he))
  | and_ _ _ _ ih1 ih2=>exact fun hs=>ih2 (tl (x:=.and _ _) ⟨hs _ List.mem_cons_self,ih1 nn⟩ fun e he=>hs e (List.mem_cons_of_mem _ he))
  | if_ _ _ _ _ ih1 ih2 ih3=>exact fun hs=>ih3 (tl (x:=.cond _ _ _) ⟨hs _ List.mem_cons_self,ih1 nn,ih2 nn⟩ fun e he=>hs e (List.mem_cons_of_mem _ he))
end MX
end
section
section
set_option Elab.async false
set_option maxRecDepth 100000
set_option maxHeartbeats 4000000
set_option linter.all false
namespace SB
open PySem PySem.Spec PyProof.Rows L2 XL
def top (i:Nat):Stmt:=PySem.Challenge.pw_stackback_s08_put.main.body.getD i (.Pass ⟨0,0,0,0⟩)
structure Fn (K:PySem.W.Frag) (mg:Str→Option Value) (x:Str) (st:Stmt) (f:Addr) (fd:FuncData) (ps:List Str):Prop where
  F:jA K x x st f fd
  m:mg x=some (.ref f)
  b:Binds K fd ps []
structure Fm (K:PySem.W.Frag) (C:Addr) (x qual:Str) (st:Stmt) (f:Addr) (fd:FuncData) (ps:List Str):Prop where
  F:jA K x qual st f fd
  b:Binds K fd ps []
  me:Meth K C x f
section
variable {P:Program} {w:World} {K:PySem.W.Frag} {mg:Str→Option Value} {base:Heap}
theorem fV {x qual:Str} {st:Stmt} {f:Addr} {fd:FuncData} {N ps:List Str} {k:Nat} {sp:Sp} (F:jA K x qual st f fd) (S:aN N ps (aD st)) (len:∀ vs H Q E,sp vs H Q E→vs.length=ps.length)
    (hbody:∀ (cdv:Value) (A:Around) (outer:List Env) (s:Shared) (H:Hp) (vs:List V) (Q:VK) (E:XK),bH k (A.deeper (envOfC qual (aD st) s.heap.objs.size f cdv))→sp vs H Q E →
      ∃ t,Hv (jm (bh P w) P w K mg base N qual (aD st) f cdv A outer s H E) (jl st) t∧t { nx:=fun _ H'=>Q .non H',rt:=Q } (start N vs) H):aL P w K mg base (bh P w) (k+1) f fd ps sp:=by
  obtain ⟨oc,od,kV,doc,pm,an,cdv,ct,osl,rfl,lk,hcd⟩:=F.ex
  exact SJ lk hcd S len fun A outer s H vs Q E hr hsp=>hbody cdv A outer s H vs Q E hr hsp
end
inductive TV where
  | i (n:Int)
  | s (x:Str)
  | t (l:List TV)
mutual
def Ke (K:PySem.W.Frag):TV→Value→Bool
  | .i n,v=>(match v with | .int j _=>decide (n=j) | _=>false)
  | .s x,v=>(match v with | .str y _=>decide (x=y) | _=>false)
  | .t l,v=>(match v with
    | .ref a=>(match K.lookup a with
      | some ⟨.type c,_,.seq its _,_⟩=>decide (c = "tuple") && Eb K l its.toList && decide (its.size≤1000)
      | _=>false)
    | _=>false)
def Eb (K:PySem.W.Frag):List TV→List Value→Bool
  | [],vs=>vs.isEmpty
  | x :: r,vs=>(match vs with | v :: q=>Ke K x v && Eb K r q | []=>false)
end
def Ut (K:PySem.W.Frag) (x:Str) (c:TV):Bool:=match PySem.W.nsIn K mainGlobals x with
  | some (some v)=>Ke K c v
  | _=>false
inductive qG (K:PySem.W.Frag):TV→V→Prop
  | i (n:Int):qG K (.i n) (.int n)
  | s (x:Str):qG K (.s x) (.str x)
  | t {l:List TV} {a:Addr} {xs:List V} (h:∀ H:Hp,dY K H a xs) (hx:Paired (qG K) l xs):qG K (.t l) (.ref a)
mutual
theorem KY (K:PySem.W.Frag):∀ (c:TV) (v:Value),Ke K c v=true→∃ x,RelV x v∧qG K c x
  | .i n,v,h=>by
    cases v with
    | int j t =>
      have e:n=j:=of_decide_eq_true h
      subst e
      exact ⟨.int n,⟨t,rfl⟩,.i n⟩
    | _=>cases h
  | .s x,v,h=>by
    cases v with
    | str y t =>
      have e:x=y:=of_decide_eq_true h
      subst e
      exact ⟨.str x,⟨t,rfl⟩,.s x⟩
    | _=>cases h
  | .t l,v,h=>by
    cases v with
    | ref a =>
      unfold Ke at h
      simp only at h
      split at h
      · rename_i c od its n sl q
        rw [Bool.and_eq_true,Bool.and_eq_true,decide_eq_true_eq,decide_eq_true_eq] at h
        obtain ⟨⟨rfl,h1⟩,h2⟩:=h
        obtain ⟨xs,r,hx⟩:=DY K l its.toList h1
        exact ⟨.ref a,rfl,.t (fun H=>.inr ⟨_,its,n,q,rfl,rfl,Nat.le_trans h2 (by decide),r⟩) hx⟩
      · cases h
    | _=>cases h
theorem DY (K:PySem.W.Frag):∀ (l:List TV) (vs:List Value),Eb K l vs=true→∃ xs,Vals xs vs∧Paired (qG K) l xs
  | [],vs,h=>by
    cases vs with
    | nil=>exact ⟨[],.nil,.nil⟩
    | cons v q=>cases h
  | c :: r,vs,h=>by
    cases vs with
    | nil=>cases h
    | cons v q =>
      have h':Ke K c v=true∧Eb K r q=true:=by
        rw [← Bool.and_eq_true]
        exact h
      obtain ⟨x,rx,hx⟩:=KY K c v h'.1
      obtain ⟨xs,rxs,hxs⟩:=DY K r q h'.2
      exact ⟨x :: xs,.cons rx rxs,.cons hx hxs⟩
end
def GC (K:PySem.W.Frag) (mg:Str→Option Value) (x:Str) (c:TV):Prop:=∃ u v,mg x=some u∧RelV v u∧qG K c v
theorem Sw {K:PySem.W.Frag} {h:Heap} {mg:Str→Option Value} {x:Str} {c:TV} (X:K.In h) (G:h.Ns mainGlobals mg) (e:Ut K x c=true):GC K mg x c:=by
  unfold Ut at e
  split at e
  · rename_i v q
    obtain ⟨y,r,hy⟩:=KY K c v e
    exact ⟨v,y,PySem.W.mg_of X G q,r,hy⟩
  · cases e
theorem qG.int {K:PySem.W.Frag} {n:Int} {v:V} (h:qG K (.i n) v):v=.int n:=by cases h; rfl
theorem qG.str {K:PySem.W.Frag} {x:Str} {v:V} (h:qG K (.s x) v):v=.str x:=by cases h; rfl
theorem qG.tup {K:PySem.W.Frag} {l:List TV} {v:V} (h:qG K (.t l) v):∃ a xs,v=.ref a∧(∀ H:Hp,dY K H a xs)∧Paired (qG K) l xs:=by
  cases h with
  | t h1 h2=>exact ⟨_,_,rfl,h1,h2⟩
theorem iV {K:PySem.W.Frag}:∀ {l:List Int} {xs:List V},Paired (qG K) (l.map TV.i) xs→xs=l.map V.int
  | [],_,.nil=>rfl
  | n :: r,_,.cons h t=>by rw [qG.int h,iV t]; rfl
def tG (K:PySem.W.Frag) (c:TV):TE:=fun _ H Q=>∀ v,qG K c v→Q v H
theorem R7 {X:Cx} {x:Str} {c:TV} {pos:Pos} (hg:Gl X x) (hm:GC X.K X.mg x c) (hd:(x==("__debug__" : Str))=false:=by decide):PE X (.Name x pos) (tG X.K c):=by
  obtain ⟨u,v,e,r,hc⟩:=hm
  exact fun pins s σ H Q I h=>jk I hg e ⟨v,H,I,r,h v hc⟩ hd
theorem bD {X:Cx} {x:Str} {n:Int} {pos:Pos} (hg:Gl X x) (hm:GC X.K X.mg x (.i n)) (hd:(x==("__debug__" : Str))=false:=by decide):PE X (.Name x pos) (tC (.int n)):=by
  obtain ⟨u,v,e,r,hc⟩:=hm
  cases hc.int
  exact dD hg e r hd
theorem ie {i j:Int}:Aw (.int i) (.int j)=true:=rfl
theorem g8 {i j:Str}:Aw (.str i) (.str j)=true:=rfl
theorem ig {i j:Bool}:Aw (.bl i) (.bl j)=true:=rfl
theorem g_ {i:Int}:Aw .non (.int i)=true:=rfl
theorem h_ {i:Int}:Aw (.int i) .non=true:=rfl
section
variable {CX:Ef} {P:Program} {w:World} {K:PySem.W.Frag} {mg:Str→Option Value} {base:Heap} {N:List Str} {qual:Str} {scope:Scope} {f:Addr} {cd:Value} {A:Around} {outer:List Env} {s:Shared} {H:Hp} {E:XK}
theorem Py:(jm CX P w K mg base N qual scope f cd A outer s H E).K=K:=rfl
theorem Px:(jm CX P w K mg base N qual scope f cd A outer s H E).prog=P:=rfl
theorem Pu:(jm CX P w K mg base N qual scope f cd A outer s H E).w=w:=rfl
theorem zH:(jm CX P w K mg base N qual scope f cd A outer s H E).mg=mg:=rfl
end
def tvs (l:List Int):TV:=.t (l.map TV.i)
def Lp (l:List Str):TV:=.t (l.map TV.s)
def wK (l:List Int) (tb:TE):TE:=fun σ H Q=>tb σ H fun y H1=>∃ i r,y=.int i∧lF l i=some r∧Q (.int r) H1
def qL (l:List Str) (tb:TE):TE:=fun σ H Q=>tb σ H fun y H1=>∃ i r,y=.int i∧lF l i=some r∧Q (.str r) H1
def mZ (l:List (List Int)) (tb tc:TE):TE:=fun σ H Q=>tb σ H fun y H1=>∃ i m,y=.int i∧lF l i=some m∧tc σ H1 fun z H2=>∃ j r,z=.int j∧lF m j=some r∧Q (.int r) H2
theorem yf {α β:Type} (g:α→β) (l:List α) (i:Int):lF (l.map g) i=(lF l i).map g:=by
  unfold lF
  rw [List.length_map]
  cases Lh l.length i with
  | none=>rfl
  | some k=>simp
theorem Bf {α β:Type} {G:α→β→Prop} {l:List α} {m:List β} (h:Paired G l m) {i:Int} {a:α} (e:lF l i=some a):∃ b,lF m i=some b∧G a b:=by
  unfold lF at e ⊢
  rw [← Paired.length h]
  cases q:Lh l.length i with
  | none=>rw [q] at e; cases e
  | some k =>
    rw [q] at e
    exact cM h e
def Vd (t:TE):TE:=fun σ H Q=>∃ Q':VK,t σ H Q'∧∀ v H1,Q' v H1→Q v H1
theorem JD {X:Cx} {e:Expr} {t:TE} (h:PE X e t):PE X e (Vd t):=fun pins s σ H Q I ⟨Q',h1,h2⟩=>cP (h pins s σ H Q' I h1) fun _ _ ⟨v,H',I',r,q⟩=>⟨v,H',I',r,h2 v H' q⟩
theorem xu {X:Cx} {x:Str} {l:List Int} {b:Expr} {tb:TE} {p pos:Pos} (hg:Gl X x) (hm:GC X.K X.mg x (tvs l)) (hb:PE X b tb) (hs:sV b) (hd:(x==("__debug__" : Str))=false:=by decide) :
    PE X (.Subscript (.Name x p) b pos) (wK l tb):=by
  obtain ⟨u,v,e,r,hc⟩:=hm
  obtain ⟨a,xs,rfl,hsq,hp⟩:=hc.tup
  have e2:=iV hp
  subst e2
  intro pins s σ H Q I h
  exact bj bL (dD hg e r hd) (JD hb) hs pins s σ H Q I ⟨_,h,fun y H1 ⟨i,r,e1,e2,q⟩=>⟨a,_,i,.int r,rfl,e1,hsq H1,by rw [yf,e2]; rfl,q⟩⟩
theorem Dj {X:Cx} {x:Str} {l:List (List Int)} {b c:Expr} {tb tc:TE} {p pos pos':Pos} (hg:Gl X x) (hm:GC X.K X.mg x (.t (l.map tvs))) (hb:PE X b tb) (hs:sV b) (hc:PE X c tc) (hs':sV c) (hd:(x==("__debug__" : Str))=false:=by decide) :
    PE X (.Subscript (.Subscript (.Name x p) b pos) c pos') (mZ l tb tc):=by
  obtain ⟨u,v,e,r,hcc⟩:=hm
  obtain ⟨a,xs,rfl,hsq,hp⟩:=hcc.tup
  intro pins s σ H Q I h
  refine bj bL (bj bL (dD hg e r hd) (JD hb) hs) (JD hc) hs' pins s σ H Q I ⟨_,h,fun y H1 ⟨i,m,e1,e2,q⟩=>?_⟩
  obtain ⟨z,hz,hcz⟩:=Bf hp (i:=i) (a:=tvs m) (by rw [yf,e2]; rfl)
  obtain ⟨a2,ys,rfl,hsq2,hp2⟩:=hcz.tup
  have e3:=iV hp2
  subst e3
  exact ⟨a,_,i,.ref a2,rfl,e1,hsq H1,hz,_,q,fun y2 H2 ⟨j,r,e4,e5,q2⟩=>⟨a2,_,j,.int r,rfl,e4,hsq2 H2,by rw [yf,e5]; rfl,q2⟩⟩
def Rz:List Int:=[7,3,9,9,9,9,9,9]
def Rv:List Int:=[5,5,6,6,6,6,8,4,4,4,4,4,4]
def gU:List (List Int):=[[0,0,0],[1,2],[2,3],[3],[5,5],[5,6],[6,7],[7],[9,7]]
def eY:List (List Int):=[[1,1,1],[0,0],[0,0],[1],[0,0],[0,0],[0,0],[1],[0,1]]
structure CN (K:PySem.W.Frag) (mg:Str→Option Value):Prop where
  ONE:GC K mg "ONE" (.i 2)
  TWO:GC K mg "TWO" (.i 3)
  AND:GC K mg "AND" (.i 4)
  OR:GC K mg "OR" (.i 5)
  IF:GC K mg "IF" (.i 6)
  STR:GC K mg "STRONGEST" (.i 9)
  OK_:GC K mg "ONE_KINDS" (tvs Rz)
  TK_:GC K mg "TWO_KINDS" (tvs Rv)
  PL:GC K mg "PLACES" (.t (gU.map tvs))
  AR:GC K mg "AROUND" (.t (eY.map tvs))
inductive jz:Int→V→Int→Prop
  | one {i r:Int}:lF Rz i=some r→jz 2 (.int i) r
  | two {i r:Int}:lF Rv i=some r→jz 3 (.int i) r
  | if_ {v:V}:jz 6 v 0
  | or_ {v:V}:jz 5 v 1
  | and_ {v:V}:jz 4 v 2
  | else_ {f:Int} {v:V}:f≠2→f≠3→f≠4→f≠5→f≠6→jz f v 9
def Qm:Sp:=fun vs H Q _=>∃ f v r,vs=[.int f,v]∧jz f v r∧Q (.int r) H
def Hu (l:List (List Int)) (c:Int) (k p r:Int):Prop:=(k=9∧r=c)∨(k≠9∧∃ m,lF l k=some m∧lF m p=some r)
def O8 (l:List (List Int)) (c:Int):Sp:=fun vs H Q _=>∃ k p r,vs=[.int k,.int p]∧Hu l c k p r∧Q (.int r) H
abbrev vU:Stmt:=top 21
abbrev pJ:Stmt:=top 22
abbrev nZ:Stmt:=top 23
section
variable {P:Program} {w:World} {K:PySem.W.Frag} {mg:Str→Option Value} {base:Heap}
theorem Qt:aN ["form","detail"] ["form","detail"] (aD vU):=⟨rfl,rfl,rfl,by decide +kernel,rfl,by decide +kernel,by decide +kernel⟩
theorem Dm {f:Addr} {fd:FuncData} (F:Fn K mg "kind_of" vU f fd ["form","detail"]) (T:CN K mg):aL P w K mg base (bh P w) 1 f fd ["form","detail"] Qm:=by
  refine fV F.F Qt (fun vs H Q E h=>?_) (fun cdv A outer s H vs Q E hr h=>?_)
  · obtain ⟨_,_,_,rfl,_⟩:=h
    rfl
  · obtain ⟨fo,v,r,rfl,hk,k⟩:=h
    refine ⟨_,aj (aY (aG bI (pv 0) (bD rfl T.ONE) (aK _)) (ao (aJ (xu rfl T.OK_ (pv 1) (fun _ _=>rfl)))) aH)
      (aj (aY (aG bI (pv 0) (bD rfl T.TWO) (aK _)) (ao (aJ (xu rfl T.TK_ (pv 1) (fun _ _=>rfl)))) aH)
      (aj (aY (aG bI (pv 0) (bD rfl T.IF) (aK _)) (ao (aJ aA)) aH)
      (aj (aY (aG bI (pv 0) (bD rfl T.OR) (aK _)) (ao (aJ aA)) aH)
      (aj (aY (aG bI (pv 0) (bD rfl T.AND) (aK _)) (ao (aJ aA)) aH)
      (ao (aJ (bD rfl T.STR))))))),?_⟩
    simp only [L2.start,wG,vf,lO,z_,jE,tC,vd,qJ,mY,m8,Mr,Mp,yN,rI,ie,g8,ig,g_,h_,V.int.injEq,V.str.injEq,V.bl.injEq,V.ref.injEq,true_and,and_true,Option.some.injEq,exists_eq_left',exists_eq_left,exists_eq_right,exists_and_left,List.map_cons,List.map_nil,List.length_cons,List.length_nil,List.cons_append,List.nil_append,List.getElem?_cons_zero,List.getElem?_cons_succ,decide_eq_true_eq,Bool.not_eq_true',decide_eq_false_iff_not,List.replicate_zero,List.replicate_succ,Nat.reduceSub,Nat.sub_self,Nat.reduceAdd,Nat.zero_add,Py,Px,Pu,zH,jL,aU,cU,vg,jy,List.set_cons_zero,List.set_cons_succ,wL,Lr,wI,Lg,qK,m9,wH,wK,mZ,qL,Eo,List.append_nil,jK,m5,rG,xg,wJ,List.append_assoc]
    cases hk with
    | one e=>exact ⟨_,rfl,_,e,k⟩
    | two e=>exact ⟨_,rfl,_,e,k⟩
    | if_=>exact k
    | or_=>exact k
    | and_=>exact k
    | else_ a b c d e =>
      rw [if_neg a,if_neg b,if_neg e,if_neg d,if_neg c]
      exact k
theorem Mg:aN ["kind","position"] ["kind","position"] (aD pJ):=⟨rfl,rfl,rfl,by decide +kernel,rfl,by decide +kernel,by decide +kernel⟩
theorem JQ {f:Addr} {fd:FuncData} (F:Fn K mg "place_of" pJ f fd ["kind","position"]) (T:CN K mg):aL P w K mg base (bh P w) 1 f fd ["kind","position"] (O8 gU 0):=by
  refine fV F.F Mg (fun vs H Q E h=>?_) (fun cdv A outer s H vs Q E hr h=>?_)
  · obtain ⟨_,_,_,rfl,_⟩:=h
    rfl
  · obtain ⟨kd,p,r,rfl,hk,k⟩:=h
    refine ⟨_,aj (aY (aG bI (pv 0) (bD rfl T.STR) (aK _)) (ao (aJ aA)) aH)
      (ao (aJ (Dj rfl T.PL (pv 0) (fun _ _=>rfl) (pv 1) (fun _ _=>rfl)))),?_⟩
    simp only [L2.start,wG,vf,lO,z_,jE,tC,vd,qJ,mY,m8,Mr,Mp,yN,rI,ie,g8,ig,g_,h_,V.int.injEq,V.str.injEq,V.bl.injEq,V.ref.injEq,true_and,and_true,Option.some.injEq,exists_eq_left',exists_eq_left,exists_eq_right,exists_and_left,List.map_cons,List.map_nil,List.length_cons,List.length_nil,List.cons_append,List.nil_append,List.getElem?_cons_zero,List.getElem?_cons_succ,decide_eq_true_eq,Bool.not_eq_true',decide_eq_false_iff_not,List.replicate_zero,List.replicate_succ,Nat.reduceSub,Nat.sub_self,Nat.reduceAdd,Nat.zero_add,Py,Px,Pu,zH,jL,aU,cU,vg,jy,List.set_cons_zero,List.set_cons_succ,wL,Lr,wI,Lg,qK,m9,wH,wK,mZ,qL,Eo,List.append_nil,jK,m5,rG,xg,wJ,List.append_assoc]
    rcases hk with ⟨rfl,rfl⟩ | ⟨a,m,e1,e2⟩
    · exact k
    · rw [if_neg a]
      exact ⟨m,e1,r,e2,k⟩
theorem Ja:aN ["kind","position"] ["kind","position"] (aD nZ):=⟨rfl,rfl,rfl,by decide +kernel,rfl,by decide +kernel,by decide +kernel⟩
theorem Gd {f:Addr} {fd:FuncData} (F:Fn K mg "around_of" nZ f fd ["kind","position"]) (T:CN K mg):aL P w K mg base (bh P w) 1 f fd ["kind","position"] (O8 eY 1):=by
  refine fV F.F Ja (fun vs H Q E h=>?_) (fun cdv A outer s H vs Q E hr h=>?_)
  · obtain ⟨_,_,_,rfl,_⟩:=h
    rfl
  · obtain ⟨kd,p,r,rfl,hk,k⟩:=h
    refine ⟨_,aj (aY (aG bI (pv 0) (bD rfl T.STR) (aK _)) (ao (aJ aA)) aH)
      (ao (aJ (Dj rfl T.AR (pv 0) (fun _ _=>rfl) (pv 1) (fun _ _=>rfl)))),?_⟩
    simp only [L2.start,wG,vf,lO,z_,jE,tC,vd,qJ,mY,m8,Mr,Mp,yN,rI,ie,g8,ig,g_,h_,V.int.injEq,V.str.injEq,V.bl.injEq,V.ref.injEq,true_and,and_true,Option.some.injEq,exists_eq_left',exists_eq_left,exists_eq_right,exists_and_left,List.map_cons,List.map_nil,List.length_cons,List.length_nil,List.cons_append,List.nil_append,List.getElem?_cons_zero,List.getElem?_cons_succ,decide_eq_true_eq,Bool.not_eq_true',decide_eq_false_iff_not,List.replicate_zero,List.replicate_succ,Nat.reduceSub,Nat.sub_self,Nat.reduceAdd,Nat.zero_add,Py,Px,Pu,zH,jL,aU,cU,vg,jy,List.set_cons_zero,List.set_cons_succ,wL,Lr,wI,Lg,qK,m9,wH,wK,mZ,qL,Eo,List.append_nil,jK,m5,rG,xg,wJ,List.append_assoc]
    rcases hk with ⟨rfl,rfl⟩ | ⟨a,m,e1,e2⟩
    · exact k
    · rw [if_neg a]
      exact ⟨m,e1,r,e2,k⟩
end
theorem pQ {CX:Ef} {P:Program} {w:World} {K:PySem.W.Frag} {mg:Str→Option Value} {base:Heap} {N:List Str} {qual:Str} {scope:Scope} {f:Addr} {cd:Value} {A:Around} {outer:List Env} {s:Shared} {H:Hp} {E:XK} :
    PassesOwn (model (jm CX P w K mg base N qual scope f cd A outer s H E).prog (jm CX P w K mg base N qual scope f cd A outer s H E).w) (jm CX P w K mg base N qual scope f cd A outer s H E).A (jm CX P w K mg base N qual scope f cd A outer s H E).env (jm CX P w K mg base N qual scope f cd A outer s H E).xe:=PassesOwn.leaving
def O9:Sp:=fun vs H Q _=>∃ a b:Nat,vs=[.int a,.int b]∧Q (.int (Nat.gcd a b)) H
abbrev Fb:Stmt:=top 54
abbrev yE:Stmt:=top 55
section
variable {P:Program} {w:World} {K:PySem.W.Frag} {mg:Str→Option Value} {base:Heap}
theorem CV:aN ["a","b","rest"] ["a","b"] (aD Fb):=⟨rfl,rfl,rfl,by decide +kernel,rfl,by decide +kernel,by decide +kernel⟩
theorem Q0 {f:Addr} {fd:FuncData} (F:Fn K mg "common_divisor" Fb f fd ["a","b"]):aL P w K mg base (bh P w) 1 f fd ["a","b"] O9:=by
  refine fV F.F CV (fun vs H Q E h=>?_) (fun cdv A outer s H vs Q E hr h=>?_)
  · obtain ⟨_,_,rfl,_⟩:=h
    rfl
  · obtain ⟨a,b,rfl,k⟩:=h
    refine ⟨_,aj (jU pQ (aG ut (pv 1) aA (aK _))
        (aj (aW (i:=2) CV.nd rfl (Or.inl rfl) (cJ QQ (pv 0) (pv 1)))
        (aj (aW (i:=0) CV.nd rfl (Or.inl rfl) (pv 1))
        (ao (aW (i:=1) CV.nd rfl (Or.inl rfl) (pv 2))))))
      (ao (aJ (pv 0))),?_⟩
    refine ⟨fun m σ H'=>∃ (x y:Nat) (v:Option V),σ=[some (.int x),some (.int y),v]∧m=y∧Nat.gcd x y=Nat.gcd a b∧H'=H,⟨b,a,b,none,rfl,rfl,rfl,rfl⟩,?_⟩
    rintro y σ H' ⟨x,_,v,rfl,rfl,hg,rfl⟩
    simp only [L2.start,wG,vf,lO,z_,jE,tC,vd,qJ,mY,m8,Mr,Mp,yN,rI,ie,g8,ig,g_,h_,V.int.injEq,V.str.injEq,V.bl.injEq,V.ref.injEq,true_and,and_true,Option.some.injEq,exists_eq_left',exists_eq_left,exists_eq_right,exists_and_left,List.map_cons,List.map_nil,List.length_cons,List.length_nil,List.cons_append,List.nil_append,List.getElem?_cons_zero,List.getElem?_cons_succ,decide_eq_true_eq,Bool.not_eq_true',decide_eq_false_iff_not,List.replicate_zero,List.replicate_succ,Nat.reduceSub,Nat.sub_self,Nat.reduceAdd,Nat.zero_add,Py,Px,Pu,zH,jL,aU,cU,vg,jy,List.set_cons_zero,List.set_cons_succ,wL,Lr,wI,Lg,qK,m9,wH,wK,mZ,qL,Eo,List.append_nil,jK,m5,rG,xg,wJ,List.append_assoc]
    by_cases hy:y=0
    · subst hy
      simp at hg ⊢
      rw [hg]
      exact k
    · have hy':¬ ((y:Int)=0):=by omega
      rw [if_pos (by simpa using hy')]
      refine ⟨fun σ' H''=>∃ (x' y':Nat) (v:Option V),σ'=[some (.int x'),some (.int y'),v]∧y' < y∧Nat.gcd x' y'=Nat.gcd a b∧H''=H',fun σ' H'' ⟨x',y',v,e1,e2,e3,e4⟩=>⟨y',e2,x',y',v,e1,rfl,e3,e4⟩,?_⟩
      refine ⟨by omega,y,x % y,_,rfl,Nat.mod_lt _ (by omega),?_,rfl⟩
      rw [← hg,Nat.gcd_comm x y,Nat.gcd_rec y x,Nat.gcd_comm]
def oF (n d:Int):Bool:=decide (0≤n∧1≤d∧n≤1000000000000000000∧d≤1000000000000000000) && (Nat.gcd n.toNat d.toNat==1)
def Qk:Sp:=fun vs H Q _=>∃ n d:Int,vs=[.int n,.int d]∧Q (.bl (oF n d)) H
theorem Qs:aN ["numerator","denominator"] ["numerator","denominator"] (aD yE):=⟨rfl,rfl,rfl,by decide +kernel,rfl,by decide +kernel,by decide +kernel⟩
theorem M5 {f fG:Addr} {fd fdG:FuncData} (F:Fn K mg "is_right_pair" yE f fd ["numerator","denominator"]) (L:GC K mg "LARGEST" (.i 1000000000000000000)) (FG:Fn K mg "common_divisor" Fb fG fdG ["a","b"]):aL P w K mg base (bh P w) 2 f fd ["numerator","denominator"] Qk:=by
  have GG:aL P w K mg base (bh P w) 1 fG fdG ["a","b"] O9:=Q0 FG
  refine fV F.F Qs (fun vs H Q E h=>?_) (fun cdv A outer s H vs Q E hr h=>?_)
  · obtain ⟨_,_,rfl,_⟩:=h
    rfl
  · obtain ⟨n,d,rfl,k⟩:=h
    refine ⟨_,aj (aY (PW.pt (qQ (aG jw (pv 0) aA (aK _)) (qQ (aG jw (pv 1) aA (aK _)) (qQ (aG qT (pv 0) (bD rfl L) (aK _)) (pM (aG qT (pv 1) (bD rfl L) (aK _)))))))
        (ao (aJ Pj)) aH)
      (ao (aJ (gm bI (aQ GG hr rfl FG.m FG.F.kp FG.b .nil passes (aa (pv 0) (aa (pv 1) aq))) aA (aK _)))),?_⟩
    simp only [L2.start,wG,vf,lO,z_,jE,tC,vd,qJ,mY,m8,Mr,Mp,yN,rI,ie,g8,ig,g_,h_,V.int.injEq,V.str.injEq,V.bl.injEq,V.ref.injEq,true_and,and_true,Option.some.injEq,exists_eq_left',exists_eq_left,exists_eq_right,exists_and_left,List.map_cons,List.map_nil,List.length_cons,List.length_nil,List.cons_append,List.nil_append,List.getElem?_cons_zero,List.getElem?_cons_succ,decide_eq_true_eq,Bool.not_eq_true',decide_eq_false_iff_not,List.replicate_zero,List.replicate_succ,Nat.reduceSub,Nat.sub_self,Nat.reduceAdd,Nat.zero_add,Py,Px,Pu,zH,jL,aU,cU,vg,jy,List.set_cons_zero,List.set_cons_succ,wL,Lr,wI,Lg,qK,m9,wH,wK,mZ,qL,Eo,List.append_nil,jK,m5,rG,xg,wJ,List.append_assoc]
    have hf:¬ (0≤n∧1≤d∧n≤1000000000000000000∧d≤1000000000000000000)→oF n d=false:=fun h=>by unfold oF; rw [decide_eq_false h]; rfl
    refine bO (fun h=>?_) fun h1=>?_
    · rw [hf (by omega)] at k
      exact k
    refine bO (fun h=>?_) fun h2=>?_
    · rw [hf (by omega)] at k
      exact k
    refine bO (fun h=>?_) fun h3=>?_
    · rw [hf (by omega)] at k
      exact k
    refine bO (fun h=>?_) fun h4=>?_
    · rw [hf (by omega)] at k
      exact k
    refine ⟨n.toNat,d.toNat,by rw [Int.toNat_of_nonneg (by omega),Int.toNat_of_nonneg (by omega)],rfl,?_⟩
    have e:oF n d=decide (((Nat.gcd n.toNat d.toNat:Nat):Int)=1):=by
      unfold oF
      rw [decide_eq_true (by omega),Bool.true_and,Bool.eq_iff_iff,beq_iff_eq,decide_eq_true_eq]
      omega
    simp only [V.int.injEq]
    rw [← e]
    exact k
end
structure KDict (K:PySem.W.Frag) (w:World) (d:Addr) (kvs:List (Key×V)):Prop where
  ns:(d==sysModules)=false
  ex:∀ P:Program,∃ (o:Obj) (es:Array DictEntry) (ep:Nat) (vs:List (Key×Value)),K.lookup d=some o∧o.ExactDict∧o.data=.dict es ep∧es.size=kvs.length∧KV kvs vs∧KeysOf (cY P w) es∧Pairs (cY P w) es.toList vs∧(vs.map (·.1)).Nodup
theorem KDict.at_ {X:Cx} {pins:List (Addr×Obj)} {σ:L2.St} {H:Hp} {s:Shared} {d:Addr} {kvs:List (Key×V)} (D:KDict X.K X.w d kvs) (I:Inv X pins σ H s) :
    ∃ (o:Obj) (es:Array DictEntry) (ep:Nat) (vs:List (Key×Value)),X.K.lookup d=some o∧s.heap.get? d=some o∧o.data=.dict es ep∧es.size=kvs.length∧KV kvs vs∧s.heap.DictAt (cY X.prog X.w) d vs ep:=by
  obtain ⟨o,es,ep,vs,h1,h2,h3,h4,h5,h6⟩:=D.ex X.prog
  exact ⟨o,es,ep,vs,h1,I.mD _ _ h1,h3,h4,h5,o,es,I.mD _ _ h1,h2,h3,h6⟩
def Tc (kvs:List (Key×V)):It :=
  ⟨fun i H=>i < kvs.length,fun i H x H'=>∃ T k v,kvs[i]?=some (k,v)∧x=.ref T∧H T=none∧H'=upd H T (.tup [kV k,v]),fun i H=>kvs.length≤i⟩
theorem HW {P:Program} {w:World} {K:PySem.W.Frag} {d:Addr} {o:Obj} {es:Array DictEntry} {ep:Nat} {kvs:List (Key×V)} {elts:List Expr} {kk:Nat} {tpos:Pos} (it:Addr) (KD:KDict K w d kvs) (lk:K.lookup d=some o) (hod:o.data=.dict es ep) :
    Turn P w K (.Tuple elts kk tpos) (Tc kvs) [it] it (fun i h=>∃ ok ov,IsItemIter h it d i kvs.length ep ok ov) where
  mem:=by simp
  obj:=fun i h st b hb=>by
    have e:b=it:=by simpa using hb
    subst e
    obtain ⟨ok,ov,e⟩:=st
    exact ⟨_,e,fun v z=>nomatch z⟩
  keep:=fun i h h' st k=>let ⟨ok,ov,e⟩:=st; ⟨ok,ov,k it (by simp) _ e⟩
  item:=by
    intro X hP hw hK hc i pins s σ H E I hf st hg
    subst hP hw hK
    have hi:i < kvs.length:=hg
    obtain ⟨o',es',ep',vs,lk',hgd,hdt,hsz,kv,hm⟩:=KD.at_ I
    rw [lk] at lk'
    cases lk'
    obtain ⟨rfl,rfl⟩:=DP hod hdt
    obtain ⟨⟨k,v⟩,hkv⟩:∃ p,kvs[i]?=some p:=⟨kvs[i],List.getElem?_eq_getElem hi⟩
    obtain ⟨u,hu,ru⟩:=Q7 kv hkv
    have hl:kvs.length=vs.length:=Paired.length kv
    obtain ⟨ok,ov,he⟩:=st
    rw [hl] at he
    have hlt:it < s.heap.objs.size:=Heap.lt_size he
    refine wpAny_pyNext_items_item he hm hu fun key h' hkey ho hT hz hk=>?_
    refine ⟨_,rfl,wpAny_letOwnedTupleGo_items (s:={ s with heap:=h' }) ho fun h'' he' sb=>?_⟩
    have hT2:h''.get? s.heap.objs.size=some { cls:=.type "tuple",data:=.seq #[key,u] }:=(sb.2 _ (Nat.ne_of_gt hlt)).trans hT
    have new:cX X.prog X.w (upd H s.heap.objs.size (.tup [kV k,v])) h'' s.heap.objs.size (.tup [kV k,v]) :=
      ⟨by show 2≤sizeLine; decide,[key,u],.cons (Jo (show qZ k key=true from hkey)) (.cons ru .nil),⟨_,hT2,rfl,_,rfl⟩⟩
    have I1:Inv X pins σ (upd H s.heap.objs.size (.tup [kV k,v])) { s with heap:=h'' } :=
      I.ph (t':=s.toks) (ch:=[it]) (fun b ob hb e=>(sb.2 b (by simpa using hb)).trans (hk b ob (by simpa using hb) e)) hf (Nat.le_refl _) new
    refine ⟨.ref s.heap.objs.size,_,I1,rfl,⟨_,k,v,hkv,rfl,I.hok.fresh (Nat.le_refl _),rfl⟩,⟨key,u,?_⟩,fun b hb=>?_⟩
    · rw [hl]; exact he'
    · have e:b=it:=by simpa using hb
      rw [e,au (Nat.ne_of_lt hlt)]
      exact (hf it (by simp)).1
  done:=by
    intro X hP hw hK hc i pins s σ H E I hf st hg
    subst hP hw hK
    have hi:kvs.length≤i:=hg
    obtain ⟨f0,f1,f2,f3,f4,f5⟩:=hf it (by simp)
    obtain ⟨o',es',ep',vs,lk',hgd,hdt,hsz,kv,hm⟩:=KD.at_ I
    rw [lk] at lk'
    cases lk'
    obtain ⟨rfl,rfl⟩:=DP hod hdt
    have hl:kvs.length=vs.length:=Paired.length kv
    obtain ⟨ok,ov,he⟩:=st
    rw [hl] at he
    exact wpAny_pyNext_items_end (I.ok.hd hc) he hm (List.getElem?_eq_none (by omega)) fun h' eb=>⟨rfl,I.turned (t':=s.toks) (fun b ob hb e=>eb b ob hb e) f0 f1 f3 f4 f5⟩
  self:=fun A i s Q E st h=>let ⟨_,_,e⟩:=st; PySem.W.kcp_self e h
theorem QD {X:Cx} {x:Str} {d:Addr} {kvs:List (Key×V)} {p apos cpos:Pos} {elts:List Expr} {kk:Nat} {tpos:Pos} (hg:Gl X x) (hm:X.mg x=some (.ref d)) (KD:KDict X.K X.w d kvs) (hd:(x==("__debug__" : Str))=false:=by decide)
    (hbase:attributeBase (.Name x p) "items" X.env (eval (.Name x p) X.env)=eval (.Name x p) X.env:=by rfl) (hline:(apos.endLine==cpos.line)=true:=by rfl) :
    PI X (.Tuple elts kk tpos) (.Call (.Attribute (.Name x p) "items" apos) [] [] cpos) (fun σ H R=>R (Tc kvs) H):=by
  intro pins s σ H R I h
  refine wpAny_Call_method (T:="dict") (id:="dict.items") hbase rfl hline F.plainAttrs_dict F.slot_dict_items F.type_dict_items (jk I hg hm ?_ hd)
  obtain ⟨o,es,ep,vs,lk,hgd,hdt,hsz,kv,hm2⟩:=KD.at_ I
  have hl:kvs.length=vs.length:=Paired.length kv
  refine ⟨hm2.dictOf.typeIs,hm2.dictOf.mapOf.noDict,?_⟩
  have I2:Inv X pins σ H { s with heap:=s.heap.push { cls:=.type "dict_items",data:=.fields #[.ref d] } }:=I.kept (t':=s.toks) fun b ob q=>Heap.get?_push_of_some _ q
  have fin:wpAny (model X.prog X.w) X.A (pyIter (.ref s.heap.objs.size)) (PIE X pins σ (.Tuple elts kk tpos) R) X.xe { s with heap:=s.heap.push { cls:=.type "dict_items",data:=.fields #[.ref d] } }:=by
    refine wpAny_pyIter_items (d:=d) (knd:=cY X.prog X.w) ⟨_,Heap.get?_push_size _ rfl,rfl,rfl⟩ (hm2.push _) (QC (tk:=s.toks) I2 _ (HW _ KD lk hdt) ⟨.none,.none,?_⟩ h)
    rw [hl]
    exact Heap.get?_push_size _ rfl
  show wpAny _ _ (callWith cpos (.builtin "dict.items") [.ref d] [] []) _ X.xe s
  exact method_meetsIn F.slot_dict_items F.entry_dict_items rfl (PySem.evalArgs_none ⟨rfl,hm2.dictOf.typeIs,F.args_dict_items_1 _,_,meets_dict_items (cY X.prog X.w) d KD.ns,⟨vs,hm2.dictOf⟩,fin⟩)
theorem Oa {kvs:List (Key×V)} {g:TG} {tb:TS} {D:Ends} {σ:L2.St} {H:Hp} (Pv:Nat→L2.St→Hp→Prop) (h0:Pv 0 σ H)
    (hs:∀ i k v σ H T,kvs[i]?=some (k,v)→Pv i σ H→H T=none→g (.ref T) σ (upd H T (.tup [kV k,v])) fun σ2 H2=>tb { D with nx:=Pv (i+1),ct:=Pv (i+1),bk:=D.nx } σ2 H2) (hd:∀ σ H,Pv kvs.length σ H→D.nx σ H) :
    ∃ W:Nat→Nat→L2.St→Hp→Prop,(∃ m,W 0 m σ H)∧∀ i m σ H,W i m σ H →
      ((Tc kvs).stop i H∧D.nx σ H)∨((Tc kvs).go i H∧∃ N:L2.St→Hp→Prop,(∀ σ' H',N σ' H'→∃ m',m' < m∧W (i+1) m' σ' H')∧∀ x H',(Tc kvs).yld i H x H'→g x σ H' fun σ2 H2=>tb { D with nx:=N,ct:=N,bk:=D.nx } σ2 H2):=by
  refine ⟨fun i m σ H=>m=kvs.length - i∧i≤kvs.length∧Pv i σ H,⟨kvs.length,by simp,Nat.zero_le _,h0⟩,?_⟩
  rintro i m σ H ⟨rfl,hi,p⟩
  by_cases hlt:i < kvs.length
  · refine .inr ⟨hlt,Pv (i+1),fun σ' H' p'=>⟨kvs.length - (i+1),by omega,rfl,hlt,p'⟩,fun x H' y=>?_⟩
    obtain ⟨T,k,v,e,rfl,hT,rfl⟩:=y
    exact hs i k v σ H T e p hT
  · have e:i=kvs.length:=by omega
    subst e
    exact .inl ⟨Nat.le_refl _,hd σ H p⟩
def ALONE:List (Str×Int):=[("clock",0),("living",1),("me",192),("priority",193),("elapsed",194),("age",195),("family",196)]
def ROWS:List (Str×Str×Int×Int):=[("p","",64,16),("v","",128,64),("f",".free",256,64),("f",".holder",320,64),("s",".used",384,64),("s",".left",448,64),("s",".open",512,64),("q",".content",576,64),("c",".length",640,64),("k","",704,64),("f",".open",832,64),("f",".displaced",896,64)]
def C_ (r:Str×Str×Int×Int):TV:=.t [.s r.1,.s r.2.1,.i r.2.2.1,.i r.2.2.2]
def iB:List (Key×V):=ALONE.map fun p=>(Sum.inr p.1,V.int p.2)
def iG (i:Int):Str:=Str.ofString (toString i)
def gH (n:Int) (r:Str×Str×Int×Int):Bool:=decide (r.2.2.1≤n) && decide (n < r.2.2.1+r.2.2.2)
def bK (n:Int):Str:=match ALONE.find? fun p=>decide (p.2=n) with
  | some p=>p.1
  | none=>match ROWS.find? (gH n) with
    | some r=>r.1++iG (n - r.2.2.1)++r.2.1
    | none => ""
structure CM (K:PySem.W.Frag) (w:World) (mg:Str→Option Value):Prop where
  RA:∃ d,mg "READ_ALONE"=some (.ref d)∧KDict K w d iB
  RR:GC K mg "READ_ROWS" (.t (ROWS.map C_))
  str:mg "str"=none
def Am:Sp:=fun vs H Q _=>∃ n:Int,vs=[.int n]∧∀ H',az H H'→Q (.str (bK n)) H'
abbrev vR:Stmt:=top 40
theorem Ka {i:Int} (h0:0≤i) (h1:i < 100):(iG i).length≤2:=by
  obtain ⟨n,rfl⟩:∃ n:Nat,i=n:=⟨i.toNat,by omega⟩
  unfold iG
  have e:=TL.Af n
  rw [TL.p_,e]
  exact TL.yW (by decide) (by omega)
theorem az.upd {H:Hp} {T:Addr} {o:HO} (h:H T=none):az H (L2.upd H T o):=fun b u e=>by
  rw [au (aB e h)]
  exact e
theorem fQ {α:Type} {p:α→Bool}:∀ {l:List α} {i:Nat} {x:α},l[i]?=some x→(l.take i).find? p=none→p x=false→(l.take (i+1)).find? p=none
  | [],i,x,h,_,_=>by simp at h
  | a :: l,0,x,h,_,hx=>by
    cases h
    simp [hx]
  | a :: l,i+1,x,h,hn,hx=>by
    rw [List.take_succ_cons,List.find?_cons] at hn ⊢
    cases q:p a with
    | true=>rw [q] at hn; cases hn
    | false =>
      rw [q] at hn
      simp only [q]
      exact fQ (l:=l) h hn hx
theorem fM {α:Type} {p:α→Bool}:∀ {l:List α} {i:Nat} {x:α},l[i]?=some x→(l.take i).find? p=none→p x=true→l.find? p=some x
  | [],i,x,h,_,_=>by simp at h
  | a :: l,0,x,h,_,hx=>by
    cases h
    simp [hx]
  | a :: l,i+1,x,h,hn,hx=>by
    rw [List.take_succ_cons,List.find?_cons] at hn
    rw [List.find?_cons]
    cases q:p a with
    | true=>rw [q] at hn; cases hn
    | false =>
      rw [q] at hn
      exact fM (l:=l) h hn hx
section
variable {P:Program} {w:World} {K:PySem.W.Frag} {mg:Str→Option Value} {base:Heap}
theorem mj:aN ["number","name","known","head","tail","first","count"] ["number"] (aD vR):=⟨rfl,rfl,rfl,by decide +kernel,rfl,by decide +kernel,by decide +kernel⟩
theorem Dl {f:Addr} {fd:FuncData} (F:Fn K mg "name_of_read" vR f fd ["number"]) (T:CM K w mg):aL P w K mg base (bh P w) 1 f fd ["number"] Am:=by
  obtain ⟨d,hd,KD⟩:=T.RA
  obtain ⟨ur,vr,hr1,rr,hcr⟩:=T.RR
  obtain ⟨ra,rxs,rfl,hsq,hprs⟩:=hcr.tup
  refine fV F.F mj (fun vs H Q E h=>?_) (fun cdv A outer s H vs Q E hr h=>?_)
  · obtain ⟨_,rfl,_⟩:=h
    rfl
  · obtain ⟨n,rfl,k⟩:=h
    refine ⟨_,aj (jV pQ rfl (QD rfl hd KD) (um rfl (cQ (bQ (i:=1) mj.nd rfl (Or.inl rfl)) (cQ (bQ (i:=2) mj.nd rfl (Or.inl rfl)) oA)))
        (ao (aY (aG bI (pv 2) (pv 0) (aK _)) (ao (aJ (pv 1))) aH)))
      (aj (jV pQ rfl (Jx (dD rfl hr1 rr)) (um rfl (cQ (bQ (i:=3) mj.nd rfl (Or.inl rfl)) (cQ (bQ (i:=4) mj.nd rfl (Or.inl rfl)) (cQ (bQ (i:=5) mj.nd rfl (Or.inl rfl)) (cQ (bQ (i:=6) mj.nd rfl (Or.inl rfl)) oA)))))
        (ao (aY (oh lR jw (pv 5) (pv 0) (cJ gA (pv 5) (pv 6)))
          (ao (aJ (cJ gK (cJ gK (pv 3) (fc fU (by rfl) T.str (by decide +kernel) (aa (cJ iH (pv 0) (pv 5)) aq))) (pv 4)))) aH)))
      (ao (aJ fY))),?_⟩
    refine Oa (kvs:=iB) (fun i σ H'=>∃ v1 v2:Option V,σ=[some (.int n),v1,v2,none,none,none,none]∧az H H'∧(ALONE.take i).find? (fun p=>decide (p.2=n))=none) ⟨none,none,rfl,az.refl H,rfl⟩ ?_ ?_
    · rintro i ky v σ H' T hi ⟨v1,v2,rfl,sm,hn⟩ hT
      obtain ⟨p,hp,e⟩:∃ p,ALONE[i]?=some p∧(ky,v)=((Sum.inr p.1:Key),V.int p.2):=by
        unfold iB at hi
        rw [List.getElem?_map] at hi
        cases q:ALONE[i]? with
        | none=>rw [q] at hi; cases hi
        | some p=>rw [q] at hi; exact ⟨p,rfl,(Option.some.inj hi).symm⟩
      cases e
      refine ⟨T,_,rfl,dY.of ak,rfl,_,_,rfl,_,_,rfl,rfl,?_⟩
      have sm':az H (L2.upd H' T (.tup [kV (Sum.inr p.1),V.int p.2])):=sm.trans (az.upd hT)
      simp only [L2.start,wG,vf,lO,z_,jE,tC,vd,qJ,mY,m8,Mr,Mp,yN,rI,ie,g8,ig,g_,h_,V.int.injEq,V.str.injEq,V.bl.injEq,V.ref.injEq,true_and,and_true,Option.some.injEq,exists_eq_left',exists_eq_left,exists_eq_right,exists_and_left,List.map_cons,List.map_nil,List.length_cons,List.length_nil,List.cons_append,List.nil_append,List.getElem?_cons_zero,List.getElem?_cons_succ,decide_eq_true_eq,Bool.not_eq_true',decide_eq_false_iff_not,List.replicate_zero,List.replicate_succ,Nat.reduceSub,Nat.sub_self,Nat.reduceAdd,Nat.zero_add,Py,Px,Pu,zH,jL,aU,cU,vg,jy,List.set_cons_zero,List.set_cons_succ,wL,Lr,wI,Lg,qK,m9,wH,wK,mZ,qL,Eo,List.append_nil,jK,m5,rG,xg,wJ,List.append_assoc]
      refine bO (fun h=>?_) fun h=>?_
      · have e:bK n=p.1:=by
          unfold bK
          rw [fM hp hn (decide_eq_true h)]
        have z:=k _ sm'
        rw [e] at z
        exact z
      · exact ⟨_,_,rfl,sm',fQ hp hn (decide_eq_false h)⟩
    · rintro σ H1 ⟨v1,v2,rfl,sm,hn⟩
      have hn':ALONE.find? (fun p=>decide (p.2=n))=none:=hn
      have hlen:rxs.length=ROWS.length:=by
        have:=Paired.length hprs
        rw [List.length_map] at this
        exact this.symm
      refine ⟨ra,rfl,⟨_,hsq H1⟩,Dz (K:=K) (a:=ra) (xs:=rxs) (fun i σ H'=>∃ w1 w2 w3 w4:Option V,σ=[some (.int n),v1,v2,w1,w2,w3,w4]∧H'=H1∧(ROWS.take i).find? (gH n)=none) ⟨none,none,none,none,rfl,rfl,rfl⟩ (fun i σ H' _ _=>hsq H') ?_ ?_⟩
      · rintro i x σ H' hi ⟨w1,w2,w3,w4,rfl,rfl,hm⟩
        have il:i < rxs.length:=(List.getElem?_eq_some_iff.mp hi).1
        obtain ⟨r,hr'⟩:∃ r,ROWS[i]?=some r:=⟨_,List.getElem?_eq_getElem (by rw [hlen] at il; exact il)⟩
        obtain ⟨y,hy,hc⟩:=cM hprs (i:=i) (a:=C_ r) (by rw [List.getElem?_map,hr']; rfl)
        rw [hi] at hy
        cases hy
        obtain ⟨a2,ys,rfl,hs2,hp2⟩:=qG.tup hc
        obtain ⟨y1,hy1,t1⟩:∃ y1,ys=y1 :: ys.tail∧True:=by cases hp2 with | cons a b=>exact ⟨_,rfl,trivial⟩
        have ey:ys=[V.str r.1,V.str r.2.1,V.int r.2.2.1,V.int r.2.2.2]:=by
          cases hp2 with
          | cons a b=>cases b with
            | cons c d=>cases d with
              | cons e f=>cases f with
                | cons g h' =>
                  cases h'
                  rw [qG.str a,qG.str c,qG.int e,qG.int g]
        subst ey
        refine ⟨a2,_,rfl,hs2 _,rfl,_,_,rfl,_,_,rfl,_,_,rfl,_,_,rfl,rfl,?_⟩
        simp only [L2.start,wG,vf,lO,z_,jE,tC,vd,qJ,mY,m8,Mr,Mp,yN,rI,ie,g8,ig,g_,h_,V.int.injEq,V.str.injEq,V.bl.injEq,V.ref.injEq,true_and,and_true,Option.some.injEq,exists_eq_left',exists_eq_left,exists_eq_right,exists_and_left,List.map_cons,List.map_nil,List.length_cons,List.length_nil,List.cons_append,List.nil_append,List.getElem?_cons_zero,List.getElem?_cons_succ,decide_eq_true_eq,Bool.not_eq_true',decide_eq_false_iff_not,List.replicate_zero,List.replicate_succ,Nat.reduceSub,Nat.sub_self,Nat.reduceAdd,Nat.zero_add,Py,Px,Pu,zH,jL,aU,cU,vg,jy,List.set_cons_zero,List.set_cons_succ,wL,Lr,wI,Lg,qK,m9,wH,wK,mZ,qL,Eo,List.append_nil,jK,m5,rG,xg,wJ,List.append_assoc,Ah]
        have hf:gH n r=false→(ROWS.take (i+1)).find? (gH n)=none:=fun q=>fQ hr' hm q
        refine bO (fun h1=>?_) fun h1=>?_
        · refine bO (fun h2=>?_) fun h2=>?_
          · have hrow:gH n r=true:=by unfold gH; rw [decide_eq_true h1,decide_eq_true h2]; rfl
            have hmem:r∈ROWS:=List.mem_of_getElem? hr'
            have hb:r.1.length≤1∧r.2.1.length≤10∧r.2.2.2≤64:=by
              have:∀ r∈ROWS,r.1.length≤1∧r.2.1.length≤10∧r.2.2.2≤64:=by decide +kernel
              exact this r hmem
            have hl:(iG (n - r.2.2.1)).length≤2:=Ka (by omega) (by omega)
            have e:bK n=r.1++iG (n - r.2.2.1)++r.2.1:=by
              unfold bK
              rw [hn',fM hr' hm hrow]
            have z:=k _ sm
            rw [e] at z
            have hlog:(n - r.2.2.1).natAbs.log2 < 1920:=Nat.lt_of_le_of_lt (Nat.log2_le_self _) (by omega)
            have hsz:(1000:Nat)≤sizeLine:=by decide
            have hl1:(r.1++iG (n - r.2.2.1)).length≤3:=by
              rw [TL.p_,TL.vL,List.length_append,← TL.p_,← TL.p_]
              omega
            skip
            exact ⟨_,rfl,hlog,by show r.1.length+(iG (n - r.2.2.1)).length≤sizeLine; omega,by show (r.1++iG (n - r.2.2.1)).length+r.2.1.length≤sizeLine; omega,z⟩
          · exact ⟨_,_,_,_,rfl,hf (by unfold gH; rw [decide_eq_false h2,Bool.and_false])⟩
        · exact ⟨_,_,_,_,rfl,hf (by unfold gH; rw [decide_eq_false h1,Bool.false_and])⟩
      · rintro σ H' ⟨w1,w2,w3,w4,rfl,rfl,hm⟩
        have hm':ROWS.find? (gH n)=none:=by
          rw [hlen] at hm
          exact hm
        have e:bK n = "":=by
          unfold bK
          rw [hn',hm']
        have z:=k _ sm
        rw [e] at z
        exact z
end
end SB
end
section
set_option Elab.async false
set_option maxRecDepth 100000
set_option maxHeartbeats 4000000
set_option linter.all false
namespace SB
open PySem PySem.Spec PyProof.Rows L2 XL
open Vbdeaa (Text Exp Exps Un Bin)
def j6:Exps→List Exp
  | .nil=>[]
  | .cons e l=>e :: j6 l
def kids:Exp→List Exp
  | .num _=>[]
  | .name _=>[]
  | .un _ a=>[a]
  | .bin _ a b=>[a,b]
  | .and a b=>[a,b]
  | .or a b=>[a,b]
  | .cond c a b=>[c,a,b]
  | .best _ l=>j6 l
  | .use _ l=>j6 l
def fH:Exp→Int
  | .num _=>0
  | .name _=>1
  | .un _ _=>2
  | .bin _ _ _=>3
  | .and _ _=>4
  | .or _ _=>5
  | .cond _ _ _=>6
  | .best _ _=>7
  | .use _ _=>8
def HJ:Un→Nat
  | .neg=>0 | .not=>1 | .floor=>2 | .ceil=>3 | .abs=>4 | .sign=>5 | .num=>6 | .den=>7
def zR:Bin→Nat
  | .add=>0 | .sub=>1 | .mul=>2 | .div=>3 | .quo=>4 | .rem=>5 | .pow=>6 | .eq=>7 | .ne=>8 | .lt=>9 | .le=>10 | .gt=>11 | .ge=>12
def gZ (t:Text):Str:=⟨(t.map Int.toNat).toArray⟩
def jC (H:Hp):Exp→V→Prop
  | .num q,D=>∃ t,D=.ref t∧H t=some (.tup [.int q.1,.int (q.2:Nat)])
  | .name n,D=>D=.str (gZ n)
  | .un o _,D=>D=.int (HJ o)
  | .bin o _ _,D=>D=.int (zR o)
  | .best g _,D=>D=.int (if g=true then 1 else 0)
  | .use n _,D=>D=.str (gZ n)
  | _,D=>D=.int 0
def JX (fo:Int) (D:V) (l:Addr) (h:Int):List (Str×V):=[("form",.int fo),("detail",D),("parts",.ref l),("height",.int h)]
inductive aV (C:Addr) (H:Hp):Exp→Addr→Prop
  | mk {e:Exp} {a dx l:Addr} {D:V} {as:List Addr}:H a=some (.ins C dx (JX (fH e) D l e.height))→jC H e D→H l=some (.lst (as.map V.ref))→Paired (aV C H) (kids e) as→aV C H e a
theorem mG:∀ (l:Exps) (e:Exp),e∈j6 l→e.height≤l.height
  | .nil,e,h=>by cases h
  | .cons a l,e,h=>by
    show _≤max a.height l.height
    rcases List.mem_cons.mp h with h | h
    · subst h; omega
    · have:=mG l e h; omega
theorem di {e k:Exp} (h:k∈kids e):k.height < e.height:=by
  cases e with
  | num q=>cases h
  | name n=>cases h
  | un o a=>simp only [kids,List.mem_cons,List.not_mem_nil,or_false] at h; subst h; show _ < _+1; omega
  | bin o a b=>simp only [kids,List.mem_cons,List.not_mem_nil,or_false] at h; show _ < max _ _+1; rcases h with h | h <;> subst h <;> omega
  | and a b=>simp only [kids,List.mem_cons,List.not_mem_nil,or_false] at h; show _ < max _ _+1; rcases h with h | h <;> subst h <;> omega
  | or a b=>simp only [kids,List.mem_cons,List.not_mem_nil,or_false] at h; show _ < max _ _+1; rcases h with h | h <;> subst h <;> omega
  | cond c a b=>simp only [kids,List.mem_cons,List.not_mem_nil,or_false] at h; show _ < max _ (max _ _)+1; rcases h with h | h | h <;> subst h <;> omega
  | best g l=>have:=mG l k h; show _ < _+1; omega
  | use n l=>have:=mG l k h; show _ < _+1; omega
def pZ (l:List Nat):Nat:=l.foldr max 0
theorem Dr:∀ {l:List Nat} {x:Nat},x∈l→x≤pZ l
  | a :: l,x,h=>by
    show x≤max a (pZ l)
    rcases List.mem_cons.mp h with h | h
    · omega
    · have:=Dr h; omega
theorem zc:∀ {l:List Nat},l≠[]→pZ l∈l
  | [],h=>absurd rfl h
  | [a],_=>by show max a 0∈[a]; rw [Nat.max_zero]; exact List.mem_cons_self
  | a :: b :: l,_=>by
    have ih:=zc (l:=b :: l) (by simp)
    show max a (pZ (b :: l))∈a :: b :: l
    by_cases h:pZ (b :: l)≤a
    · rw [Nat.max_eq_left h]; exact List.mem_cons_self
    · rw [Nat.max_eq_right (by omega)]; exact List.mem_cons_of_mem _ ih
theorem Nu {l:List Nat} {m:Int} (h:(l.map (fun (n:Nat)=>(n:Int))=[]∧m=0)∨(m∈l.map (fun (n:Nat)=>(n:Int))∧∀ y∈l.map (fun (n:Nat)=>(n:Int)),y≤m)):m=pZ l:=by
  rcases h with ⟨h1,h2⟩ | ⟨h1,h2⟩
  · have:l=[]:=by simpa using h1
    subst this
    exact h2
  · obtain ⟨x,hx,e⟩:=List.mem_map.mp h1
    have a1:=Dr hx
    have a2:=h2 _ (List.mem_map.mpr ⟨pZ l,zc (by intro z; subst z; cases hx),rfl⟩)
    omega
theorem iJ:∀ (l:Exps),l.height=pZ ((j6 l).map Exp.height)
  | .nil=>rfl
  | .cons a l=>by
    show max a.height l.height=max a.height (pZ ((j6 l).map Exp.height))
    rw [iJ l]
theorem fj (e:Exp):e.height=1+pZ ((kids e).map Exp.height):=by
  cases e with
  | num q=>rfl
  | name n=>rfl
  | un o a=>show a.height+1=1+max a.height 0; omega
  | bin o a b=>show max a.height b.height+1=1+max a.height (max b.height 0); omega
  | and a b=>show max a.height b.height+1=1+max a.height (max b.height 0); omega
  | or a b=>show max a.height b.height+1=1+max a.height (max b.height 0); omega
  | cond c a b=>show max c.height (max a.height b.height)+1=1+max c.height (max a.height (max b.height 0)); omega
  | best g l=>show l.height+1=1+pZ ((j6 l).map Exp.height); rw [iJ]; omega
  | use n l=>show l.height+1=1+pZ ((j6 l).map Exp.height); rw [iJ]; omega
theorem gP {H H':Hp} {e:Exp} {D:V} (s:∀ b xs,H b=some (.tup xs)→H' b=some (.tup xs)) (h:jC H e D):jC H' e D:=by
  cases e with
  | num q=>obtain ⟨t,e1,e2⟩:=h; exact ⟨t,e1,s _ _ e2⟩
  | _=>exact h
theorem dm {α β:Type} {F G:α→β→Prop}:∀ {l:List α} {m:List β},Paired F l m→(∀ a b,a∈l→F a b→G a b)→Paired G l m
  | _,_,.nil,_=>.nil
  | _,_,.cons r t,f=>.cons (f _ _ List.mem_cons_self r) (dm t fun a b h=>f a b (List.mem_cons_of_mem _ h))
theorem aV.same {C:Addr} {H H':Hp} (s:az H H'):∀ {e:Exp} {a:Addr},aV C H e a→aV C H' e a:=by
  have main:∀ (n:Nat) (e:Exp) (a:Addr),e.height≤n→aV C H e a→aV C H' e a:=by
    intro n
    induction n with
    | zero =>
      intro e a hn h
      have:0 < e.height:=by cases e <;> simp [Exp.height]
      omega
    | succ n ih =>
      intro e a hn h
      cases h with
      | mk h1 h2 h3 h4=>exact .mk (s _ _ h1) (gP (fun b xs q=>s _ _ q) h2) (s _ _ h3) (dm h4 fun k b hk hb=>ih k b (by have:=di hk; omega) hb)
  intro e a h
  exact main e.height e a (Nat.le_refl _) h
structure kE (K:PySem.W.Frag) (C:Addr):Prop where
  cl:Ed K C
  nF:aX K C "form"
  nD:aX K C "detail"
  nP:aX K C "parts"
  nH:aX K C "height"
def dH (x:Addr) (H H':Hp):Prop:=∀ b o,H b=some o→b≠x→H' b=some o
def pF (C:Addr):Sp:=fun vs H Q _=>∃ (x dx l:Addr) (e:Exp) (D:V) (as:List Addr),vs=[.ref x,.int (fH e),D,.ref l]∧H x=some (.ins C dx [])∧jC H e D∧H l=some (.lst (as.map V.ref))∧Paired (aV C H) (kids e) as ∧
  as.length < 2000∧∀ H',dH x H H'→H' x=some (.ins C dx (JX (fH e) D l e.height))→Q .non H'
abbrev CZ:Stmt:=inClass (top 20) 0
theorem fD {C:Addr} {H:Hp} {e:Exp} {a:Addr} (h:aV C H e a):∃ dx D l as,H a=some (.ins C dx (JX (fH e) D l e.height))∧jC H e D∧H l=some (.lst (as.map V.ref))∧Paired (aV C H) (kids e) as:=by
  cases h with
  | mk h1 h2 h3 h4=>exact ⟨_,_,_,_,h1,h2,h3,h4⟩
section
variable {P:Program} {w:World} {K:PySem.W.Frag} {mg:Str→Option Value} {base:Heap}
theorem Ax:aN ["self","form","detail","parts","part"] ["self","form","detail","parts"] (aD CZ):=⟨rfl,rfl,rfl,by decide +kernel,rfl,by decide +kernel,by decide +kernel⟩
theorem M6 {f C:Addr} {fd:FuncData} (F:jA K "__init__" "Node.__init__" CZ f fd) (T:kE K C) (hmax:mg "max"=none):aL P w K mg base (bh P w) 1 f fd ["self","form","detail","parts"] (pF C):=by
  refine fV F Ax (fun vs H Q E h=>?_) (fun cdv A outer s H vs Q E hr h=>?_)
  · obtain ⟨_,_,_,_,_,_,rfl,_⟩:=h
    rfl
  · obtain ⟨x,dx,l,e,D,as,rfl,hx,hD,hl,hp,hlen,k⟩:=h
    refine ⟨_,aj (eE (pv 0) (pv 1) rfl) (aj (eE (pv 0) (pv 2) rfl) (aj (eE (pv 0) (pv 3) rfl)
      (ao (eE (pv 0) (cJ gA aA (MF rfl rfl hmax (aa (Dg (own:=[("part",4)]) (te:=m5 K (jE 4) "height") rfl Ax.nd (ir (pv 3)) (kh (by kernel_rfl))
        (fun _ _ _ _ _=>by exact bQ (i:=4) Ax.nd rfl (Or.inl rfl)) (fun _ _ _ _ _=>by exact n_) (fun _ _ _ _ _=>by exact aF (pv 4) rfl)) aq) (Mw aA Qz))) rfl)))),?_⟩
    have nlx:l≠x:=qU hl hx (by intro z; cases z)
    have put1:gq "form" (.int (fH e)) []=[(("form" : Str),V.int (fH e))]:=rfl
    refine ⟨_,rfl,_,rfl,x,C,dx,[],rfl,hx,T.cl,T.nF,(by decide),?_⟩
    refine ⟨_,rfl,_,rfl,x,C,dx,_,rfl,ak,T.cl,T.nD,(by show 1 < 1000; decide),?_⟩
    refine ⟨_,rfl,_,rfl,x,C,dx,_,rfl,ak,T.cl,T.nP,(by show 2 < 1000; decide),?_⟩
    generalize hH3:L2.upd (L2.upd (L2.upd H x (.ins C dx (gq "form" (.int (fH e)) []))) x (.ins C dx (gq "detail" D (gq "form" (.int (fH e)) [])))) x (.ins C dx (gq "parts" (.ref l) (gq "detail" D (gq "form" (.int (fH e)) []))))=H3
    have sx:dH x H H3:=fun b o q hb=>by rw [← hH3,au hb,au hb,au hb]; exact q
    have hx3:H3 x=some (.ins C dx [("form",.int (fH e)),("detail",D),("parts",.ref l)]):=by rw [← hH3]; exact ak
    have hl3:=sx l _ hl nlx
    refine ⟨_,rfl,l,rfl,⟨_,bG.of hl3⟩,fun L hL=>oN (K:=K) (a:=l) (xs:=as.map V.ref) (fun i H'=>dH L H3 H'∧H' L=some (.lst (((((kids e).map Exp.height).take i).map (fun (n:Nat)=>(n:Int))).map V.int))) ⟨fun b o q hb=>by rw [au hb]; exact q,ak⟩
      (fun i H' _ ⟨s1,_⟩=>bG.of (s1 l _ hl3 (aB hl3 hL))) ?_ ?_⟩
    · rintro i y H' hi ⟨s1,hL'⟩
      rw [List.getElem?_map] at hi
      obtain ⟨a,ha,rfl⟩:∃ a,as[i]?=some a∧y=V.ref a:=by
        cases q:as[i]? with
        | none=>rw [q] at hi; cases hi
        | some a=>rw [q] at hi; exact ⟨a,rfl,(Option.some.inj hi).symm⟩
      have il:i < (kids e).length:=by rw [Paired.length hp]; exact (List.getElem?_eq_some_iff.mp ha).1
      obtain ⟨kd,hkd⟩:∃ kd,(kids e)[i]?=some kd:=⟨_,List.getElem?_eq_getElem il⟩
      obtain ⟨a',ha',hna⟩:=cM hp hkd
      rw [ha] at ha'
      cases ha'
      obtain ⟨dx',D',l',as',h1,_⟩:=fD hna
      have nax:a≠x:=qU h1 hx (by intro z; injection z with _ _ z; cases z)
      have h1':=s1 a _ (sx a _ h1 nax) (aB (sx a _ h1 nax) hL)
      refine ⟨rfl,_,rfl,a,C,dx',_,_,rfl,h1',T.cl,T.nH,rfl,_,hL',?_,fun b o q hb=>by rw [au hb]; exact s1 b o q hb,?_⟩
      · rw [List.length_map,List.length_map,List.length_take]
        exact Nat.lt_of_le_of_lt (Nat.min_le_right _ _) (by rw [List.length_map,Paired.length hp]; exact Nat.lt_of_lt_of_le hlen (by decide))
      · rw [ak]
        have e1:((kids e).map Exp.height)[i]?=some kd.height:=by rw [List.getElem?_map,hkd]; rfl
        rw [List.take_succ,e1]
        simp
    · rintro H' ⟨s1,hL'⟩
      rw [List.length_map,← Paired.length hp,show (kids e).length=((kids e).map Exp.height).length by rw [List.length_map],List.take_length] at hL'
      have nxL:x≠L:=aB hx3 hL
      have hx4:=s1 x _ hx3 nxL
      refine ⟨L,_,0,rfl,rfl,bG.of hL',fun m hm=>?_⟩
      have em:=Nu (l:=(kids e).map Exp.height) hm
      have eh:1+m=(e.height:Int):=by rw [fj,em]; omega
      refine ⟨_,_,rfl,rfl,_,rfl,x,C,dx,_,rfl,hx4,T.cl,T.nH,(by show 3 < 1000; decide),?_⟩
      show Q .non (L2.upd H' x (.ins C dx (gq "height" (.int (1+m)) _)))
      rw [eh]
      refine k _ (fun b o q hb=>?_) ak
      rw [au hb]
      have q3:=sx b o q hb
      exact s1 b o q3 (aB q3 hL)
end
theorem az.Um {H:Hp} {x dx C:Addr} (nx:H x=none) (nd:H dx=none):az H (L2.upd (L2.upd H dx (.own x)) x (.ins C dx [])):=fun b o e=>by
  rw [au (aB e nx),au (aB e nd)]
  exact e
theorem cR {C:Addr} {H H':Hp} (s:az H H') {es:List Exp} {as:List Addr} (h:Paired (aV C H) es as):Paired (aV C H') es as:=dm h fun _ _ _ q=>q.same s
def vG (H:Hp) (Q:VK) (xs:List V):Prop:=∀ l H',H l=none→az H H'→H' l=some (.lst xs)→Q (.ref l) H'
abbrev t7:Stmt:=top 57
abbrev yF:Stmt:=top 58
section
variable {P:Program} {w:World} {K:PySem.W.Frag} {mg:Str→Option Value} {base:Heap}
end
theorem uD {H:Hp} {e:Exp} {D:V} (h:jC H e D):jz (fH e) D (e.level:Int):=by
  cases e with
  | num q=>exact jz.else_ (f:=0) (by decide) (by decide) (by decide) (by decide) (by decide)
  | name n=>exact jz.else_ (f:=1) (by decide) (by decide) (by decide) (by decide) (by decide)
  | un o a =>
    obtain rfl:D=.int (HJ o):=h
    cases o <;> exact .one rfl
  | bin o a b =>
    obtain rfl:D=.int (zR o):=h
    cases o <;> exact .two rfl
  | and a b=>exact .and_
  | or a b=>exact .or_
  | cond c a b=>exact .if_
  | best g l=>exact jz.else_ (f:=7) (by decide) (by decide) (by decide) (by decide) (by decide)
  | use n l=>exact jz.else_ (f:=8) (by decide) (by decide) (by decide) (by decide) (by decide)
def pC (l:List (List Int)) (c:Int) (lev i:Nat):Int:=if lev=9 then c else (l.getD lev []).getD i 0
theorem pB (e:Exp) {i:Nat} (hi:i < (kids e).length):Hu gU 0 (e.level:Int) (i:Int) (pC gU 0 e.level i)∧Hu eY 1 (e.level:Int) (i:Int) (pC eY 1 e.level i):=by
  have nine:∀ (l:List (List Int)) (c:Int),e.level=9→Hu l c (e.level:Int) (i:Int) (pC l c e.level i):=fun l c h=>.inl ⟨by rw [h]; rfl,by unfold pC; rw [if_pos h]⟩
  have less:∀ (k:Nat),e.level=k→k≠9→(∃ m,lF gU (k:Int)=some m∧lF m (i:Int)=some (pC gU 0 k i))→(∃ m,lF eY (k:Int)=some m∧lF m (i:Int)=some (pC eY 1 k i)) →
      Hu gU 0 (e.level:Int) (i:Int) (pC gU 0 e.level i)∧Hu eY 1 (e.level:Int) (i:Int) (pC eY 1 e.level i):=fun k h hk h1 h2=>by
    rw [h]
    exact ⟨.inr ⟨by omega,h1⟩,.inr ⟨by omega,h2⟩⟩
  have c1:∀ j,j < 1→i=j→i=0:=by omega
  cases e with
  | num q=>exact absurd hi (by simp [kids])
  | name n=>exact absurd hi (by simp [kids])
  | un o a =>
    have h0:i=0:=by simp [kids] at hi; omega
    subst h0
    cases o with
    | neg=>exact less 7 rfl (by decide) ⟨[7],rfl,rfl⟩ ⟨[1],rfl,rfl⟩
    | not=>exact less 3 rfl (by decide) ⟨[3],rfl,rfl⟩ ⟨[1],rfl,rfl⟩
    | _=>exact ⟨nine _ _ rfl,nine _ _ rfl⟩
  | bin o a b =>
    have h0:i=0∨i=1:=by simp [kids] at hi; omega
    rcases h0 with rfl | rfl <;> cases o <;> first
      | exact less 5 rfl (by decide) ⟨[5,6],rfl,rfl⟩ ⟨[0,0],rfl,rfl⟩
      | exact less 6 rfl (by decide) ⟨[6,7],rfl,rfl⟩ ⟨[0,0],rfl,rfl⟩
      | exact less 8 rfl (by decide) ⟨[9,7],rfl,rfl⟩ ⟨[0,1],rfl,rfl⟩
      | exact less 4 rfl (by decide) ⟨[5,5],rfl,rfl⟩ ⟨[0,0],rfl,rfl⟩
  | and a b =>
    have h0:i=0∨i=1:=by simp [kids] at hi; omega
    rcases h0 with rfl | rfl <;> exact less 2 rfl (by decide) ⟨[2,3],rfl,rfl⟩ ⟨[0,0],rfl,rfl⟩
  | or a b =>
    have h0:i=0∨i=1:=by simp [kids] at hi; omega
    rcases h0 with rfl | rfl <;> exact less 1 rfl (by decide) ⟨[1,2],rfl,rfl⟩ ⟨[0,0],rfl,rfl⟩
  | cond c a b =>
    have h0:i=0∨i=1∨i=2:=by simp [kids] at hi; omega
    rcases h0 with rfl | rfl | rfl <;> exact less 0 rfl (by decide) ⟨[0,0,0],rfl,rfl⟩ ⟨[1,1,1],rfl,rfl⟩
  | best g l=>exact ⟨nine _ _ rfl,nine _ _ rfl⟩
  | use n l=>exact ⟨nine _ _ rfl,nine _ _ rfl⟩
def sX (e p:Exp) (i:Nat):Bool:=decide ((p.level:Int) < pC gU 0 e.level i)
def a_ (e:Exp) (r:Exp→Int) (acc:Int) (pi:Exp×Nat):Int :=
  let d:=pC eY 1 e.level pi.2+r pi.1+(if sX e pi.1 pi.2=true then 1 else 0)
  if d > acc then d else acc
def vW:Nat→Exp→Int
  | 0,_=>0
  | k+1,e=>(kids e).zipIdx.foldl (a_ e (vW k)) 0
def cu (e:Exp):Int:=vW e.height e
theorem qg {α β:Type} {f g:β→α→β}:∀ {l:List α} {b:β},(∀ a∈l,∀ b,f b a=g b a)→l.foldl f b=l.foldl g b
  | [],_,_=>rfl
  | x :: l,b,h=>by
    rw [List.foldl_cons,List.foldl_cons,h x List.mem_cons_self]
    exact qg fun a ha=>h a (List.mem_cons_of_mem _ ha)
theorem j0 {α:Type} {l:List α} {p:α×Nat} (h:p∈l.zipIdx):p.1∈l:=by
  obtain ⟨a,i⟩:=p
  have:=List.mem_zipIdx h
  exact this.2.2 ▸ List.getElem_mem _
theorem J0:∀ (n m:Nat) (e:Exp),e.height≤n→e.height≤m→vW n e=vW m e:=by
  intro n
  induction n with
  | zero => intro m e h; have : 0 < e.height := by rw [fj]; omega
            omega
  | succ n ih =>
    intro m e h1 h2
    cases m with
    | zero => have : 0 < e.height := by rw [fj]; omega
              omega
    | succ m =>
      refine qg fun p hp b=>?_
      have hk:=di (j0 hp)
      unfold a_
      rw [ih m p.1 (by omega) (by omega)]
theorem eN (e:Exp):cu e=(kids e).zipIdx.foldl (a_ e cu) 0:=by
  unfold cu
  have hh:=fj e
  rw [hh,Nat.add_comm]
  refine qg fun p hp b=>?_
  have hk:=di (j0 hp)
  have e2:vW (pZ ((kids e).map Exp.height)) p.1=vW p.1.height p.1:=J0 _ _ _ (by omega) (Nat.le_refl _)
  unfold a_
  rw [e2]
def Lz (C:Addr):Sp:=fun vs H Q _=>∃ (a:Addr) (e p:Exp) (i:Nat),vs=[.ref a,.int i]∧aV C H e a∧(kids e)[i]?=some p∧Q (.bl (sX e p i)) H
section
variable {P:Program} {w:World} {K:PySem.W.Frag} {mg:Str→Option Value} {base:Heap}
theorem CJ:aN ["node","position","part"] ["node","position"] (aD t7):=⟨rfl,rfl,rfl,by decide +kernel,rfl,by decide +kernel,by decide +kernel⟩
theorem JK {f C fK fP:Addr} {fd fdK fdP:FuncData} (F:Fn K mg "wants_brackets" t7 f fd ["node","position"]) (T:kE K C) (FK:Fn K mg "kind_of" vU fK fdK ["form","detail"]) (FP:Fn K mg "place_of" pJ fP fdP ["kind","position"]) (TC:CN K mg) :
    aL P w K mg base (bh P w) 2 f fd ["node","position"] (Lz C):=by
  have GK:aL P w K mg base (bh P w) 1 fK fdK _ _:=Dm FK TC
  have GP:aL P w K mg base (bh P w) 1 fP fdP _ _:=JQ FP TC
  refine fV F.F CJ (fun vs H Q E h=>?_) (fun cdv A outer s H vs Q E hr h=>?_)
  · obtain ⟨_,_,_,_,rfl,_⟩:=h
    rfl
  · obtain ⟨a,e,p,i,rfl,hn,hi,k⟩:=h
    obtain ⟨dx,D,l,as,h1,hD,hl,hp⟩:=fD hn
    obtain ⟨b,hb,hnb⟩:=cM hp hi
    obtain ⟨dx',D',l',as',h1',hD',_,_⟩:=fD hnb
    refine ⟨_,aj (aW (i:=2) CJ.nd rfl (Or.inl rfl) (bj cD (aF (pv 0) rfl) (pv 1) (fun _ _=>rfl)))
      (ao (aJ (gm jw (aQ GK hr rfl FK.m FK.F.kp FK.b .nil passes (aa (aF (pv 2) rfl) (aa (aF (pv 2) rfl) aq)))
        (aQ GP hr rfl FP.m FP.F.kp FP.b .nil passes (aa (aQ GK hr rfl FK.m FK.F.kp FK.b .nil passes (aa (aF (pv 0) rfl) (aa (aF (pv 0) rfl) aq))) (aa (pv 1) aq))) (aK _)))),?_⟩
    refine ⟨_,rfl,a,C,dx,_,_,rfl,h1,T.cl,T.nP,rfl,_,rfl,l,_,_,_,rfl,rfl,bG.of hl,jr (by rw [List.getElem?_map,hb]; rfl),?_⟩
    refine ⟨_,rfl,b,C,dx',_,_,rfl,h1',T.cl,T.nF,rfl,_,rfl,b,C,dx',_,_,rfl,h1',T.cl,T.nD,rfl,_,_,_,rfl,uD hD',?_⟩
    refine ⟨_,rfl,a,C,dx,_,_,rfl,h1,T.cl,T.nF,rfl,_,rfl,a,C,dx,_,_,rfl,h1,T.cl,T.nD,rfl,_,_,_,rfl,uD hD,?_⟩
    refine ⟨_,rfl,_,_,_,rfl,(pB e (List.getElem?_eq_some_iff.mp hi).1).1,?_⟩
    exact ⟨_,_,rfl,rfl,k⟩
end
theorem Ks {K:PySem.W.Frag} {a:Addr} {xs:List V} {g:TG} {tb:TS} {D:Ends} {σ:L2.St} {H:Hp} (Pv:Nat→L2.St→Hp→Prop) (h0:Pv 0 σ H) (hl:∀ i σ H,i≤xs.length→Pv i σ H→bG K H a xs)
    (hs:∀ i x σ H T,xs[i]?=some x→Pv i σ H→H T=none→g (.ref T) σ (L2.upd H T (.tup [.int (i:Nat),x])) fun σ2 H2=>tb { D with nx:=Pv (i+1),ct:=Pv (i+1),bk:=D.nx } σ2 H2) (hd:∀ σ H,Pv xs.length σ H→D.nx σ H) :
    ∃ W:Nat→Nat→L2.St→Hp→Prop,(∃ m,W 0 m σ H)∧∀ i m σ H,W i m σ H →
      ((Td K a).stop i H∧D.nx σ H)∨((Td K a).go i H∧∃ N:L2.St→Hp→Prop,(∀ σ' H',N σ' H'→∃ m',m' < m∧W (i+1) m' σ' H')∧∀ x H',(Td K a).yld i H x H'→g x σ H' fun σ2 H2=>tb { D with nx:=N,ct:=N,bk:=D.nx } σ2 H2):=by
  refine ⟨fun i m σ H=>m=xs.length - i∧i≤xs.length∧Pv i σ H,⟨xs.length,by simp,Nat.zero_le _,h0⟩,?_⟩
  rintro i m σ H ⟨rfl,hi,p⟩
  have q:=hl i σ H hi p
  by_cases hlt:i < xs.length
  · refine .inr ⟨⟨xs,xs[i],q,by simp [hlt]⟩,Pv (i+1),fun σ' H' p'=>⟨xs.length - (i+1),by omega,rfl,hlt,p'⟩,fun x H' y=>?_⟩
    obtain ⟨T,z,rfl,hT,rfl,hz⟩:=y
    exact hs i z σ H T (hz xs q) p hT
  · have e:i=xs.length:=by omega
    subst e
    exact .inl ⟨⟨xs,q,Nat.le_refl _⟩,hd σ H p⟩
def Al (C:Addr) (n:Nat):Sp:=fun vs H Q _=>∃ (a:Addr) (e:Exp),vs=[.ref a]∧aV C H e a∧e.height≤n∧∀ H',az H H'→Q (.int (cu e)) H'
theorem Hz {α:Type} {l:List α} {i:Nat} {x:α} (h:l[i]?=some x):(l.zipIdx).take (i+1)=(l.zipIdx).take i++[(x,i)]:=by
  rw [List.take_succ,List.getElem?_zipIdx,h]
  simp
section
variable {P:Program} {w:World} {K:PySem.W.Frag} {mg:Str→Option Value} {base:Heap}
theorem je:aN ["node","kind","deepest","position","part","depth"] ["node"] (aD yF):=⟨rfl,rfl,rfl,by decide +kernel,rfl,by decide +kernel,by decide +kernel⟩
theorem M8 {f C fK fA fW fP:Addr} {fd fdK fdA fdW fdP:FuncData} (F:Fn K mg "nesting_of" yF f fd ["node"]) (T:kE K C) (FK:Fn K mg "kind_of" vU fK fdK ["form","detail"]) (FA:Fn K mg "around_of" nZ fA fdA ["kind","position"])
    (FW:Fn K mg "wants_brackets" t7 fW fdW ["node","position"]) (FP:Fn K mg "place_of" pJ fP fdP ["kind","position"]) (TC:CN K mg) (hmax:mg "max"=none) (hen:mg "enumerate"=none) :
    ∀ n:Nat,aL P w K mg base (bh P w) (n+3) f fd ["node"] (Al C n):=by
  have GK:aL P w K mg base (bh P w) 1 fK fdK _ _:=Dm FK TC
  have GA:aL P w K mg base (bh P w) 1 fA fdA _ _:=Gd FA TC
  have GW:aL P w K mg base (bh P w) 2 fW fdW _ _:=JK FW T FK FP TC
  intro n
  induction n with
  | zero =>
    refine fV F.F je (fun vs H Q E h=>?_) (fun cdv A outer s H vs Q E hr h=>?_)
    · obtain ⟨_,_,rfl,_⟩:=h
      rfl
    · obtain ⟨a,e,rfl,hn,hh,k⟩:=h
      have:0 < e.height:=by rw [fj]; omega
      omega
  | succ n ih =>
    refine fV F.F je (fun vs H Q E h=>?_) (fun cdv A outer s H vs Q E hr h=>?_)
    · obtain ⟨_,_,rfl,_⟩:=h
      rfl
    · obtain ⟨a,e,rfl,hn,hh,k⟩:=h
      obtain ⟨dx,D,l,as,h1,hD,hl,hp⟩:=fD hn
      have hr1:bH 1 _:=hr.mono (by omega)
      have hr2:bH 2 _:=hr.mono (by omega)
      refine ⟨_,aj (aW (i:=1) je.nd rfl (Or.inl rfl) (aQ GK hr1 rfl FK.m FK.F.kp FK.b .nil passes (aa (aF (pv 0) rfl) (aa (aF (pv 0) rfl) aq))))
        (aj (aW (i:=2) je.nd rfl (Or.inl rfl) aA)
        (aj (jV pQ rfl (Mx rfl hen (aa (aF (pv 0) rfl) aq)) (um rfl (cQ (bQ (i:=3) je.nd rfl (Or.inl rfl)) (cQ (bQ (i:=4) je.nd rfl (Or.inl rfl)) oA)))
          (aj (aW (i:=5) je.nd rfl (Or.inl rfl) (cJ gA (aQ GA hr1 rfl FA.m FA.F.kp FA.b .nil passes (aa (pv 1) (aa (pv 3) aq))) (aQ ih hr rfl F.m F.F.kp F.b .nil passes (aa (pv 4) aq))))
          (aj (aY (my (aQ GW hr2 rfl FW.m FW.F.kp FW.b .nil passes (aa (pv 0) (aa (pv 3) aq)))) (ao (Bd (i:=5) je.nd rfl (Or.inl rfl) aA Kf)) aH)
          (ao (aW (i:=2) je.nd rfl (Or.inl rfl) (bJ (Hg rfl) (by rfl) hmax (by decide +kernel) (aa (pv 2) (aa (pv 5) aq))))))))
        (ao (aJ (pv 2))))),?_⟩
      refine ⟨_,rfl,a,C,dx,_,_,rfl,h1,T.cl,T.nF,rfl,_,rfl,a,C,dx,_,_,rfl,h1,T.cl,T.nD,rfl,_,_,_,rfl,uD hD,?_⟩
      refine ⟨_,rfl,a,C,dx,_,_,rfl,h1,T.cl,T.nP,rfl,l,_,rfl,bG.of hl,Ks (K:=K) (a:=l) (xs:=as.map V.ref) (fun i σ H'=>∃ v3 v4 v5:Option V,σ=[some (.ref a),some (.int e.level),some (.int (((kids e).zipIdx.take i).foldl (a_ e cu) 0)),v3,v4,v5]∧az H H')
        ⟨none,none,none,rfl,az.refl H⟩ (fun i σ H' _ ⟨_,_,_,_,s1⟩=>bG.of (s1 _ _ hl)) ?_ ?_⟩
      · rintro i x σ H' Tt hi ⟨v3,v4,v5,rfl,s1⟩ hT
        rw [List.getElem?_map] at hi
        obtain ⟨b,hb,rfl⟩:∃ b,as[i]?=some b∧x=V.ref b:=by
          cases q:as[i]? with
          | none=>rw [q] at hi; cases hi
          | some b=>rw [q] at hi; exact ⟨b,rfl,(Option.some.inj hi).symm⟩
        have il:i < (kids e).length:=by rw [Paired.length hp]; exact (List.getElem?_eq_some_iff.mp hb).1
        obtain ⟨kd,hkd⟩:∃ kd,(kids e)[i]?=some kd:=⟨_,List.getElem?_eq_getElem il⟩
        obtain ⟨b',hb',hnb⟩:=cM hp hkd
        rw [hb] at hb'
        cases hb'
        have s2:az H (L2.upd H' Tt (.tup [.int (i:Nat),.ref b])):=s1.trans (az.upd hT)
        refine ⟨Tt,_,rfl,dY.of ak,rfl,_,_,rfl,_,_,rfl,rfl,?_⟩
        refine ⟨_,rfl,_,rfl,_,_,_,rfl,(pB e il).2,?_⟩
        refine ⟨_,rfl,b,kd,rfl,hnb.same s2,by have:=di (List.mem_of_getElem? hkd); omega,fun H3 s3=>?_⟩
        have s4:=s2.trans s3
        refine ⟨_,_,rfl,rfl,?_⟩
        refine ⟨_,rfl,_,rfl,a,e,kd,i,rfl,hn.same s4,hkd,_,rfl,?_⟩
        have fin:∀ d:Int,d=pC eY 1 e.level i+cu kd+(if sX e kd i=true then 1 else 0) →
            (if d > ((kids e).zipIdx.take i).foldl (a_ e cu) 0 then d else ((kids e).zipIdx.take i).foldl (a_ e cu) 0)=((kids e).zipIdx.take (i+1)).foldl (a_ e cu) 0:=fun d hd=>by
          rw [Hz hkd,List.foldl_append,List.foldl_cons,List.foldl_nil]
          show _=a_ e cu _ (kd,i)
          unfold a_
          rw [hd]
        cases hw:sX e kd i with
        | true =>
          refine cF ⟨_,rfl,_,_,rfl,rfl,?_⟩
          refine ⟨_,rfl,_,rfl,_,_,rfl,?_⟩
          exact ⟨_,_,_,by rw [fin _ (by rw [hw,if_pos rfl])]; rfl,s4⟩
        | false =>
          refine aZ ?_
          refine ⟨_,rfl,_,rfl,_,_,rfl,?_⟩
          exact ⟨_,_,_,by rw [fin _ (by rw [hw,if_neg (by decide),Int.add_zero])]; rfl,s4⟩
      · rintro σ H' ⟨v3,v4,v5,rfl,s1⟩
        rw [List.length_map,← Paired.length hp,show (kids e).length=(kids e).zipIdx.length by rw [List.length_zipIdx],List.take_length,← eN]
        exact ⟨_,rfl,k H' s1⟩
end
def vI (t:Text):List V:=t.map V.int
theorem u_ (s:String):Vbdeaa.text s=(TL.tl (Str.ofString s)).map fun (c:Nat)=>(c:Int):=by
  unfold Vbdeaa.text
  rw [TL.yq,List.map_map]
  rfl
theorem Bu {n:Int} (h:n.natAbs≤1000000000000000000):n.natAbs.log2 < 1920:=by
  by_cases h0:n.natAbs=0
  · rw [h0]; decide
  · have:n.natAbs < 2 ^ 60:=Nat.lt_of_le_of_lt h (by decide)
    have:=(Nat.log2_lt h0).mpr this
    omega
theorem J_ {n:Nat} (h:n≤1000000000000000000):(iG (n:Int)).length≤19:=by
  unfold iG
  rw [TL.p_,TL.Af n]
  exact TL.yW (by decide) (Nat.lt_of_le_of_lt h (by decide))
def S5:List Str:=["-","not","floor","ceil","abs","sign","num","den"]
def PJ:List Str:=["min","max"]
def SQ:List (List Int):=[[43],[45],[42],[47],[47,47],[37],[94],[61],[60,62],[60],[60,61],[62],[62,61]]
structure CP (K:PySem.W.Frag) (mg:Str→Option Value):Prop where
  NUMBER:GC K mg "NUMBER" (.i 0)
  NAME:GC K mg "NAME" (.i 1)
  PICK:GC K mg "PICK" (.i 7)
  OW:GC K mg "ONE_WORDS" (Lp S5)
  PW:GC K mg "PICK_WORDS" (Lp PJ)
  TS:GC K mg "TWO_SIGNS" (.t (SQ.map tvs))
  str:mg "str"=none
  list:mg "list"=none
  range:mg "range"=none
  len:mg "len"=none
section
variable {P:Program} {w:World} {K:PySem.W.Frag} {mg:Str→Option Value} {base:Heap}
end
section
variable {P:Program} {w:World} {K:PySem.W.Frag} {mg:Str→Option Value} {base:Heap}
end
section
variable {P:Program} {w:World} {K:PySem.W.Frag} {mg:Str→Option Value} {base:Heap}
theorem QM {X:Cx}:iM (bh X.prog X.w) X E0:=fun pins σ H s v s' I h=>by
  obtain ⟨_,_,_,_,_,_,_,_,_,_,z⟩:=h
  exact False.elim z
end
theorem cZ {a b:Int} (h:V.int a=V.int b):a=b:=by injection h
theorem cV {α β:Type} {F:α→β→Prop}:∀ {l:List α} {m:List β} {a:α} {b:β},Paired F l m→F a b→Paired F (l++[a]) (m++[b])
  | _,_,_,_,.nil,h=>.cons h .nil
  | _,_,_,_,.cons r t,h=>.cons r (cV t h)
section
variable {P:Program} {w:World} {K:PySem.W.Frag} {mg:Str→Option Value} {base:Heap}
end
abbrev vm:Stmt:=inClass (top 25) 0
abbrev lJ (i:Nat):Stmt:=inClass (top i) 0
section
variable {P:Program} {w:World} {K:PySem.W.Frag} {mg:Str→Option Value} {base:Heap}
theorem RX:aN ["self","number"] ["self","number"] (aD vm):=⟨rfl,rfl,rfl,by decide +kernel,rfl,by decide +kernel,by decide +kernel⟩
theorem pU {f:Addr} {fd:FuncData} (F:jA K "__init__" "Refusal.__init__" vm f fd) (hex:mg "Exception"=none):aL P w K mg base (bh P w) 1 f fd ["self","number"] (Vf K):=by
  refine fV F RX (fun vs H Q E h=>?_) (fun cdv A outer s H vs Q E hr h=>?_)
  · obtain ⟨_,_,_,rfl,_⟩:=h
    rfl
  · obtain ⟨x,C,n,rfl,hx,hc,k⟩:=h
    refine ⟨_,aj (bf (Jy rfl hex (aa (pv 0) aq))) (ao (Mv (pv 0) (pv 1) rfl)),?_⟩
    exact ⟨_,rfl,x,C,none,rfl,hx,hc.over,_,rfl,_,rfl,x,C,rfl,hx,hc.over,hc.sa,hc.tk,hc.hd,k⟩
theorem Qp:aN ["self"] ["self"] (aD (lJ 26)):=⟨rfl,rfl,rfl,by decide +kernel,rfl,by decide +kernel,by decide +kernel⟩
theorem QR {f fR R:Addr} {fd fdR:FuncData} (F:jA K "__init__" "WrongParameterCount.__init__" (lJ 26) f fd) (FR:jA K "__init__" "Refusal.__init__" vm fR fdR) (bR:Binds K fdR ["self","number"] []) (hR:mg "Refusal"=some (.ref R)) (CR:iC K R "__init__" fR) (hex:mg "Exception"=none):aL P w K mg base (bh P w) 2 f fd ["self"] (LK K (-1)):=by
  have GR:aL P w K mg base (bh P w) 1 fR fdR _ _:=pU FR hex
  refine fV F Qp (fun vs H Q E h=>?_) (fun cdv A outer s H vs Q E hr h=>?_)
  · obtain ⟨_,_,rfl,_⟩:=h
    rfl
  · obtain ⟨x,C,rfl,hx,hc,k⟩:=h
    refine ⟨_,ao (bf (kW (dD rfl hR rfl) CR GR hr bR .nil passes (aa (pv 0) (aa (gC d_ aA) aq)))),?_⟩
    exact ⟨_,rfl,_,rfl,x,C,-1,rfl,hx,hc,k⟩
theorem L_:aN ["self"] ["self"] (aD (lJ 27)):=⟨rfl,rfl,rfl,by decide +kernel,rfl,by decide +kernel,by decide +kernel⟩
theorem M9 {f fR R:Addr} {fd fdR:FuncData} (F:jA K "__init__" "CodeTooLong.__init__" (lJ 27) f fd) (FR:jA K "__init__" "Refusal.__init__" vm fR fdR) (bR:Binds K fdR ["self","number"] []) (hR:mg "Refusal"=some (.ref R)) (CR:iC K R "__init__" fR) (hex:mg "Exception"=none):aL P w K mg base (bh P w) 2 f fd ["self"] (LK K (-2)):=by
  have GR:aL P w K mg base (bh P w) 1 fR fdR _ _:=pU FR hex
  refine fV F L_ (fun vs H Q E h=>?_) (fun cdv A outer s H vs Q E hr h=>?_)
  · obtain ⟨_,_,rfl,_⟩:=h
    rfl
  · obtain ⟨x,C,rfl,hx,hc,k⟩:=h
    refine ⟨_,ao (bf (kW (dD rfl hR rfl) CR GR hr bR .nil passes (aa (pv 0) (aa (gC d_ aA) aq)))),?_⟩
    exact ⟨_,rfl,_,rfl,x,C,-2,rfl,hx,hc,k⟩
theorem Ey:aN ["self"] ["self"] (aD (lJ 28)):=⟨rfl,rfl,rfl,by decide +kernel,rfl,by decide +kernel,by decide +kernel⟩
theorem FQ {f fR R:Addr} {fd fdR:FuncData} (F:jA K "__init__" "NoCode.__init__" (lJ 28) f fd) (FR:jA K "__init__" "Refusal.__init__" vm fR fdR) (bR:Binds K fdR ["self","number"] []) (hR:mg "Refusal"=some (.ref R)) (CR:iC K R "__init__" fR) (hex:mg "Exception"=none):aL P w K mg base (bh P w) 2 f fd ["self"] (LK K (-3)):=by
  have GR:aL P w K mg base (bh P w) 1 fR fdR _ _:=pU FR hex
  refine fV F Ey (fun vs H Q E h=>?_) (fun cdv A outer s H vs Q E hr h=>?_)
  · obtain ⟨_,_,rfl,_⟩:=h
    rfl
  · obtain ⟨x,C,rfl,hx,hc,k⟩:=h
    refine ⟨_,ao (bf (kW (dD rfl hR rfl) CR GR hr bR .nil passes (aa (pv 0) (aa (gC d_ aA) aq)))),?_⟩
    exact ⟨_,rfl,_,rfl,x,C,-3,rfl,hx,hc,k⟩
theorem Ma:aN ["self"] ["self"] (aD (lJ 29)):=⟨rfl,rfl,rfl,by decide +kernel,rfl,by decide +kernel,by decide +kernel⟩
theorem Nj {f fR R:Addr} {fd fdR:FuncData} (F:jA K "__init__" "CodeTooDeep.__init__" (lJ 29) f fd) (FR:jA K "__init__" "Refusal.__init__" vm fR fdR) (bR:Binds K fdR ["self","number"] []) (hR:mg "Refusal"=some (.ref R)) (CR:iC K R "__init__" fR) (hex:mg "Exception"=none):aL P w K mg base (bh P w) 2 f fd ["self"] (LK K (-4)):=by
  have GR:aL P w K mg base (bh P w) 1 fR fdR _ _:=pU FR hex
  refine fV F Ma (fun vs H Q E h=>?_) (fun cdv A outer s H vs Q E hr h=>?_)
  · obtain ⟨_,_,rfl,_⟩:=h
    rfl
  · obtain ⟨x,C,rfl,hx,hc,k⟩:=h
    refine ⟨_,ao (bf (kW (dD rfl hR rfl) CR GR hr bR .nil passes (aa (pv 0) (aa (gC d_ aA) aq)))),?_⟩
    exact ⟨_,rfl,_,rfl,x,C,-4,rfl,hx,hc,k⟩
end
theorem sE {X:Cx} {x:Str} {l:List TV} {p0 p pos:Pos} (hg:Gl X x) (hl:Gl X "len") (hlm:X.mg "len"=none) (hm:GC X.K X.mg x (.t l)) (hd:(x==("__debug__" : Str))=false:=by decide):PE X (.Call (.Name "len" p0) [.Name x p] [] pos) (tC (.int (l.length:Nat))):=by
  obtain ⟨u,v,e,r,hcc⟩:=hm
  obtain ⟨a,xs,rfl,hsq,hp⟩:=hcc.tup
  intro pins s σ H Q I h
  have key:PE X (.Call (.Name "len" p0) [.Name x p] [] pos) _:=bJ bc hl hlm (by decide +kernel) (aa (dD hg e r hd) aq)
  refine key pins s σ H Q I ⟨a,xs,rfl,.inr (hsq H),?_⟩
  rw [← Paired.length hp]
  exact h
def Ck:List Int:=[3,2,2,2,2,2,2,2,3,1,2]
structure CR (K:PySem.W.Frag) (mg:Str→Option Value):Prop where
  LE:GC K mg "LENGTHS" (tvs Ck)
  Z:GC K mg "NUMBER_ZERO" (tvs [0,0,1])
  O:GC K mg "NUMBER_ONE" (tvs [0,1,1])
  FO:GC K mg "FORMULAS" (.i 64)
  TA:GC K mg "TABLES" (.i 64)
  MA:GC K mg "MOST_ARGUMENTS" (.i 8)
  CALL:GC K mg "CALL" (.i 8)
  tuple:mg "tuple"=none
def gr (f n:Int):Int:=if f=1 then n else if f=3 then 8 else if f=4 then 13 else if f=7 then 64 else 2
def Et:Sp:=fun vs H Q _=>∃ f n:Int,vs=[.int f,.int n]∧Q (.int (gr f n)) H
def dj (n:Int):List Int→Bool
  | [0,a,b]=>oF a b
  | [2,k]=>!decide (bK k = "")
  | [8,f,m]=>decide (0≤f∧f < 64) && decide (0≤m∧m≤8)
  | [9]=>true
  | [f,k]=>decide (0≤k) && (decide (f=5∨f=6) || decide (k < gr f n))
  | _=>false
def Shape (row:List Int):Prop:=∃ f:Nat,row[0]?=some (f:Int)∧f < 11∧Ck[f]?=some (row.length:Int)
def wO:Sp:=fun vs H Q _=>∃ (t:Addr) (row:List Int) (n:Int),vs=[.ref t,.int n]∧H t=some (.tup (vI row))∧Shape row∧∀ H',az H H'→Q (.bl (dj n row)) H'
abbrev jR:Stmt:=top 65
abbrev t_:Stmt:=top 64
theorem qN {row:List Int} (h:Shape row):(∃ a b,row=[0,a,b])∨(∃ a,row=[2,a])∨(∃ a b,row=[8,a,b])∨row=[9]∨(∃ (f:Int) (a:Int),row=[f,a]∧f≠0∧f≠2∧f≠8∧f≠9):=by
  obtain ⟨f,h0,h1,h2⟩:=h
  have two:row.length=2→(f:Int)≠0∧(f:Int)≠2∧(f:Int)≠8∧(f:Int)≠9→∃ (f:Int) (a:Int),row=[f,a]∧f≠0∧f≠2∧f≠8∧f≠9:=fun hl hf=>by
    match row,h0,hl with
    | [a,b],h0,_=>cases h0; exact ⟨_,_,rfl,hf⟩
  have hcase:f=0∨f=1∨f=2∨f=3∨f=4∨f=5∨f=6∨f=7∨f=8∨f=9∨f=10:=by omega
  rcases hcase with rfl | rfl | rfl | rfl | rfl | rfl | rfl | rfl | rfl | rfl | rfl
  · have hl:row.length=3:=by
      have:(3:Int)=row.length:=Option.some.inj h2
      omega
    match row,h0,hl with
    | [a,b,c],h0,_=>cases h0; exact .inl ⟨_,_,rfl⟩
  · exact .inr (.inr (.inr (.inr (two (by have:(2:Int)=row.length:=Option.some.inj h2; omega) (by decide)))))
  · have hl:row.length=2:=by
      have:(2:Int)=row.length:=Option.some.inj h2
      omega
    match row,h0,hl with
    | [a,b],h0,_=>cases h0; exact .inr (.inl ⟨_,rfl⟩)
  · exact .inr (.inr (.inr (.inr (two (by have:(2:Int)=row.length:=Option.some.inj h2; omega) (by decide)))))
  · exact .inr (.inr (.inr (.inr (two (by have:(2:Int)=row.length:=Option.some.inj h2; omega) (by decide)))))
  · exact .inr (.inr (.inr (.inr (two (by have:(2:Int)=row.length:=Option.some.inj h2; omega) (by decide)))))
  · exact .inr (.inr (.inr (.inr (two (by have:(2:Int)=row.length:=Option.some.inj h2; omega) (by decide)))))
  · exact .inr (.inr (.inr (.inr (two (by have:(2:Int)=row.length:=Option.some.inj h2; omega) (by decide)))))
  · have hl:row.length=3:=by
      have:(3:Int)=row.length:=Option.some.inj h2
      omega
    match row,h0,hl with
    | [a,b,c],h0,_=>cases h0; exact .inr (.inr (.inl ⟨_,_,rfl⟩))
  · have hl:row.length=1:=by
      have:(1:Int)=row.length:=Option.some.inj h2
      omega
    match row,h0,hl with
    | [a],h0,_=>cases h0; exact .inr (.inr (.inr (.inl rfl)))
  · exact .inr (.inr (.inr (.inr (two (by have:(2:Int)=row.length:=Option.some.inj h2; omega) (by decide)))))
section
variable {P:Program} {w:World} {K:PySem.W.Frag} {mg:Str→Option Value} {base:Heap}
theorem EY:aN ["first","n"] ["first","n"] (aD jR):=⟨rfl,rfl,rfl,by decide +kernel,rfl,by decide +kernel,by decide +kernel⟩
theorem Bm {f:Addr} {fd:FuncData} (F:Fn K mg "choices_of" jR f fd ["first","n"]) (T:CP K mg) (R:CR K mg):aL P w K mg base (bh P w) 1 f fd ["first","n"] Et:=by
  refine fV F.F EY (fun vs H Q E h=>?_) (fun cdv A outer s H vs Q E hr h=>?_)
  · obtain ⟨_,_,rfl,_⟩:=h
    rfl
  · obtain ⟨f0,n,rfl,k⟩:=h
    refine ⟨_,aj (aY (aG bI (pv 0) aA (aK _)) (ao (aJ (pv 1))) aH)
      (aj (aY (aG bI (pv 0) aA (aK _)) (ao (aJ (sE rfl rfl T.len T.OW))) aH)
      (aj (aY (aG bI (pv 0) aA (aK _)) (ao (aJ (sE rfl rfl T.len T.TS))) aH)
      (aj (aY (aG bI (pv 0) aA (aK _)) (ao (aJ (bD rfl R.TA))) aH)
      (ao (aJ (sE rfl rfl T.len T.PW)))))),?_⟩
    unfold gr at k
    simp only [L2.start,wG,vf,lO,z_,jE,tC,vd,qJ,mY,m8,Mr,Mp,yN,rI,ie,g8,ig,g_,h_,V.int.injEq,V.str.injEq,V.bl.injEq,V.ref.injEq,true_and,and_true,Option.some.injEq,exists_eq_left',exists_eq_left,exists_eq_right,exists_and_left,List.map_cons,List.map_nil,List.length_cons,List.length_nil,List.cons_append,List.nil_append,List.getElem?_cons_zero,List.getElem?_cons_succ,decide_eq_true_eq,Bool.not_eq_true',decide_eq_false_iff_not,List.replicate_zero,List.replicate_succ,Nat.reduceSub,Nat.sub_self,Nat.reduceAdd,Nat.zero_add,Py,Px,Pu,zH,jL,aU,cU,vg,jy,List.set_cons_zero,List.set_cons_succ,wL,Lr,wI,Lg,qK,m9,wH,wK,mZ,qL,Eo,List.append_nil,jK,m5,rG,xg,wJ,List.append_assoc]
    by_cases h1:f0=1
    · rw [if_pos h1] at k ⊢
      exact k
    rw [if_neg h1] at k ⊢
    by_cases h3:f0=3
    · rw [if_pos h3] at k ⊢
      exact k
    rw [if_neg h3] at k ⊢
    by_cases h4:f0=4
    · rw [if_pos h4] at k ⊢
      exact k
    rw [if_neg h4] at k ⊢
    by_cases h7:f0=7
    · rw [if_pos h7] at k ⊢
      exact k
    rw [if_neg h7] at k ⊢
    exact k
theorem CT:aN ["row","n","first"] ["row","n"] (aD t_):=⟨rfl,rfl,rfl,by decide +kernel,rfl,by decide +kernel,by decide +kernel⟩
theorem JP {f fP fG fN fC:Addr} {fd dP dG dN dC:FuncData} (F:Fn K mg "is_right_instruction" t_ f fd ["row","n"]) (FPr:Fn K mg "is_right_pair" yE fP dP ["numerator","denominator"]) (L:GC K mg "LARGEST" (.i 1000000000000000000)) (FG:Fn K mg "common_divisor" Fb fG dG ["a","b"])
    (FN:Fn K mg "name_of_read" vR fN dN ["number"]) (FC:Fn K mg "choices_of" jR fC dC ["first","n"]) (T:CP K mg) (R:CR K mg) (M:CM K w mg):aL P w K mg base (bh P w) 3 f fd ["row","n"] wO:=by
  have GP:aL P w K mg base (bh P w) 2 fP dP _ _:=M5 FPr L FG
  have GN:aL P w K mg base (bh P w) 1 fN dN _ _:=Dl FN M
  have GC:aL P w K mg base (bh P w) 1 fC dC _ _:=Bm FC T R
  refine fV F.F CT (fun vs H Q E h=>?_) (fun cdv A outer s H vs Q E hr h=>?_)
  · obtain ⟨_,_,_,rfl,_⟩:=h
    rfl
  · obtain ⟨t,row,n,rfl,ht,hsh,k⟩:=h
    have hr1:bH 1 _:=hr.mono (by omega)
    refine ⟨_,aj (aW (i:=2) CT.nd rfl (Or.inl rfl) (bj bL (pv 0) aA (fun _ _=>rfl)))
      (aj (aY (aG bI (pv 2) aA (aK _)) (ao (aJ (aQ GP hr rfl FPr.m FPr.F.kp FPr.b .nil passes (aa (bj bL (pv 0) aA (fun _ _=>rfl)) (aa (bj bL (pv 0) aA (fun _ _=>rfl)) aq))))) aH)
      (aj (aY (aG bI (pv 2) aA (aK _)) (ao (aJ (gm ut (aQ GN hr1 rfl FN.m FN.F.kp FN.b .nil passes (aa (bj bL (pv 0) aA (fun _ _=>rfl)) aq)) fY (aK _)))) aH)
      (aj (aY (aG bI (pv 2) aA (aK _)) (ao (aJ (xx (yQ lR jw aA (bj bL (pv 0) aA (fun _ _=>rfl)) (bD rfl R.FO)) (uo (yQ lR lR aA (bj bL (pv 0) aA (fun _ _=>rfl)) (bD rfl R.MA)))))) aH)
      (aj (aY (aG bI (pv 2) aA (aK _)) (ao (aJ Pj)) aH)
      (ao (aJ (xx (gm lR aA (bj bL (pv 0) aA (fun _ _=>rfl)) (aK _)) (uo (R6 (gm Fq (pv 2) (eF (aa aA (aa aA aq))) rfl) (uo (gm jw (bj bL (pv 0) aA (fun _ _=>rfl)) (aQ GC hr1 rfl FC.m FC.F.kp FC.b .nil passes (aa (pv 2) (aa (pv 1) aq))) (aK _)))))))))))),?_⟩
    rcases qN hsh with ⟨a,b,rfl⟩ | ⟨a,rfl⟩ | ⟨a,b,rfl⟩ | rfl | ⟨f0,a,rfl,n0,n2,n8,n9⟩
    · refine ⟨_,rfl,t,_,_,_,rfl,rfl,dY.of ht,at_of (j:=0) rfl rfl,?_⟩
      refine ⟨_,rfl,rfl,_,rfl,cF ⟨_,rfl,t,_,_,_,rfl,rfl,dY.of ht,at_of (j:=1) rfl rfl,_,rfl,t,_,_,_,rfl,rfl,dY.of ht,at_of (j:=2) rfl rfl,a,b,rfl,k H (az.refl H)⟩⟩
    · refine ⟨_,rfl,t,_,_,_,rfl,rfl,dY.of ht,at_of (j:=0) rfl rfl,?_⟩
      refine ⟨_,rfl,rfl,_,rfl,aZ ?_⟩
      refine ⟨_,rfl,rfl,_,rfl,cF ⟨_,rfl,t,_,_,_,rfl,rfl,dY.of ht,at_of (j:=1) rfl rfl,a,rfl,fun H' s'=>⟨rfl,?_⟩⟩⟩
      have:=k H' s'
      have e:dj n [2,a]=!decide (V.str (bK a)=V.str ""):=by
        show (!decide (bK a = ""))=_
        congr 1
        simp
      rw [e] at this
      exact this
    · refine ⟨_,rfl,t,_,_,_,rfl,rfl,dY.of ht,at_of (j:=0) rfl rfl,?_⟩
      refine ⟨_,rfl,rfl,_,rfl,aZ ?_⟩
      refine ⟨_,rfl,rfl,_,rfl,aZ ?_⟩
      refine ⟨_,rfl,rfl,_,rfl,cF ?_⟩
      have fin:∀ c:Bool,dj n [8,a,b]=c→Q (.bl c) H:=fun c e=>e ▸ k H (az.refl H)
      have e8:dj n [8,a,b]=(decide (0≤a∧a < 64) && decide (0≤b∧b≤8)):=rfl
      refine ⟨_,rfl,t,_,_,_,rfl,rfl,dY.of ht,at_of (j:=1) rfl rfl,0,a,rfl,rfl,_,rfl,bO (fun h1=>?_) fun h1=>?_⟩
      · have h1:0≤a:=of_decide_eq_true h1
        refine ⟨a,64,rfl,rfl,_,rfl,bO (fun h2=>?_) fun h2=>?_⟩
        · have h2:a < 64:=of_decide_eq_true h2
          refine ⟨_,rfl,t,_,_,_,rfl,rfl,dY.of ht,at_of (j:=2) rfl rfl,0,b,rfl,rfl,_,rfl,bO (fun h3=>?_) fun h3=>?_⟩
          · have h3:0≤b:=of_decide_eq_true h3
            refine ⟨b,8,rfl,rfl,fin _ ?_⟩
            rw [e8,decide_eq_true (⟨h1,h2⟩:0≤a∧a < 64),Bool.true_and]
            exact decide_eq_decide.mpr ⟨fun z=>z.2,fun z=>⟨h3,z⟩⟩
          · refine fin false ?_
            rw [e8,decide_eq_false (p:=0≤b∧b≤8) (fun z=>h3 (decide_eq_true z.1)),Bool.and_false]
        · refine fin false ?_
          rw [e8,decide_eq_false (p:=0≤a∧a < 64) (fun z=>h2 (decide_eq_true z.2)),Bool.false_and]
      · refine ⟨_,rfl,aZ (fin false ?_)⟩
        rw [e8,decide_eq_false (p:=0≤a∧a < 64) (fun z=>h1 (decide_eq_true z.1)),Bool.false_and]
    · refine ⟨_,rfl,t,_,_,_,rfl,rfl,dY.of ht,at_of (j:=0) rfl rfl,?_⟩
      refine ⟨_,rfl,rfl,_,rfl,aZ ?_⟩
      refine ⟨_,rfl,rfl,_,rfl,aZ ?_⟩
      refine ⟨_,rfl,rfl,_,rfl,aZ ?_⟩
      exact ⟨_,rfl,rfl,_,rfl,cF (k H (az.refl H))⟩
    · have e5:dj n [f0,a]=(decide (0≤a) && (decide (f0=5∨f0=6) || decide (a < gr f0 n))):=by
        unfold dj
        split
        · rename_i h; cases h
        · rename_i h; injection h with h _; exact absurd h n2
        · rename_i h; cases h
        · rename_i h; cases h
        · rename_i h; cases h; rfl
        · rename_i h1 h2 h3 h4 h5; exact absurd rfl (h5 f0 a)
      have fin:∀ (c:Bool) (H':Hp),az H H'→dj n [f0,a]=c→Q (.bl c) H':=fun c H' s' e=>e ▸ k H' s'
      refine ⟨_,rfl,t,_,_,_,rfl,rfl,dY.of ht,at_of (j:=0) rfl rfl,?_⟩
      refine ⟨_,rfl,rfl,_,rfl,bO (fun h=>absurd (cZ (of_decide_eq_true h)) n0) fun _=>?_⟩
      refine ⟨_,rfl,rfl,_,rfl,bO (fun h=>absurd (cZ (of_decide_eq_true h)) n2) fun _=>?_⟩
      refine ⟨_,rfl,rfl,_,rfl,bO (fun h=>absurd (cZ (of_decide_eq_true h)) n8) fun _=>?_⟩
      refine ⟨_,rfl,rfl,_,rfl,bO (fun h=>absurd (cZ (of_decide_eq_true h)) n9) fun _=>?_⟩
      refine ⟨_,rfl,t,_,_,_,rfl,rfl,dY.of ht,at_of (j:=1) rfl rfl,0,a,rfl,rfl,_,rfl,bO (fun h1=>?_) fun h1=>?_⟩
      · have h1:0≤a:=of_decide_eq_true h1
        refine ⟨_,rfl,by show 2≤sizeLine; decide,fun tt htt=>?_⟩
        have s1:az H (L2.upd H tt (.tup [.int 5,.int 6])):=az.upd htt
        refine ⟨tt,_,rfl,.inr (dY.of ak),rfl,rfl,_,rfl,?_⟩
        have hin:inV (.int f0) [V.int 5,V.int 6]=decide (f0=5∨f0=6):=by
          show (((5:Int)==f0) || (((6:Int)==f0) || false))=_
          rw [Bool.or_false,Bool.eq_iff_iff]
          simp only [Bool.or_eq_true,beq_iff_eq,decide_eq_true_eq]
          exact ⟨fun z=>z.elim (fun y=>.inl y.symm) fun y=>.inr y.symm,fun z=>z.elim (fun y=>.inl y.symm) fun y=>.inr y.symm⟩
        show if inV (.int f0) [V.int 5,V.int 6]=true then _ else _
        rw [hin]
        refine bO (fun h2=>?_) fun h2=>?_
        · refine fin true _ s1 ?_
          rw [e5,decide_eq_true h1,h2]
          rfl
        · refine ⟨_,rfl,t,_,_,_,rfl,rfl,dY.of (s1 _ _ ht),at_of (j:=1) rfl rfl,_,rfl,_,rfl,f0,n,rfl,a,gr f0 n,rfl,rfl,fin _ _ s1 ?_⟩
          rw [e5,decide_eq_true h1,Bool.true_and,(by simpa using h2:decide (f0=5∨f0=6)=false),Bool.false_or]
      · refine fin false H (az.refl H) ?_
        rw [e5,decide_eq_false (fun z=>h1 (decide_eq_true z)),Bool.false_and]
end
end SB
end
section
set_option Elab.async false
set_option maxRecDepth 100000
set_option maxHeartbeats 4000000
set_option linter.all false
namespace SB
open PySem PySem.Spec PyProof.Rows L2 XL
open Vbdeaa (Text Exp Exps Un Bin Ins Code)
open MX (gM hd Cut)
def nameFits (k:Nat):Bool:=decide (bK (k:Int)=gZ ((Vbdeam.readName k).getD [])) && (((Vbdeam.readName k).isSome==!decide (bK (k:Int) = "")) && (Vbdeam.readName k).all fun t=>Vbdeaa.isName t && t.all fun c=>decide (0≤c))
theorem Gg:((List.range 960).all nameFits)=true:=by decide +kernel
theorem vZ {k:Nat} (h:k < 960):nameFits k=true:=List.all_eq_true.mp Gg k (List.mem_range.mpr h)
theorem xJ {n:Int} (h:n < 0∨960≤n):bK n = "":=by
  unfold bK
  have h1:ALONE.find? (fun p=>decide (p.2=n))=none:=by
    rw [List.find?_eq_none]
    intro p hp
    simp only [ALONE,List.mem_cons,List.not_mem_nil,or_false] at hp
    rcases hp with rfl | rfl | rfl | rfl | rfl | rfl | rfl <;> simp only [decide_eq_true_eq] <;> omega
  have h2:ROWS.find? (gH n)=none:=by
    rw [List.find?_eq_none]
    intro p hp
    simp only [ROWS,List.mem_cons,List.not_mem_nil,or_false] at hp
    rcases hp with rfl | rfl | rfl | rfl | rfl | rfl | rfl | rfl | rfl | rfl | rfl | rfl <;> simp only [gH,Bool.and_eq_true,decide_eq_true_eq] <;> omega
  rw [h1,h2]
theorem gG {k:Nat} (h:960≤k):Vbdeam.readName k=none:=by
  unfold Vbdeam.readName
  have:15≤k / 64:=by omega
  generalize k / 64=j at this
  simp only
  split <;> first | omega | rfl
theorem vY {k:Nat} {t:Text} (h:Vbdeam.readName k=some t):bK (k:Int)=gZ t∧Vbdeaa.isName t=true∧∀ c∈t,0≤c:=by
  by_cases hk:k < 960
  · have:=vZ hk
    unfold nameFits at this
    rw [h] at this
    simp only [Option.getD_some,Option.isSome_some,Option.all_some,Bool.and_eq_true,decide_eq_true_eq] at this
    refine ⟨this.1,this.2.2.1,fun c hc=>?_⟩
    have:=List.all_eq_true.mp this.2.2.2 c hc
    exact of_decide_eq_true this
  · rw [gG (by omega)] at h
    cases h
theorem vX (n:Int):(bK n = "")↔¬ (0≤n∧(Vbdeam.readName n.toNat).isSome=true):=by
  by_cases h:n < 0∨960≤n
  · refine ⟨fun _ z=>?_,fun _=>xJ h⟩
    rcases h with h | h
    · omega
    · rw [gG (by omega)] at z
      exact absurd z.2 (by decide)
  · obtain ⟨k,rfl⟩:∃ k:Nat,n=k:=⟨n.toNat,by omega⟩
    have:=vZ (k:=k) (by omega)
    unfold nameFits at this
    simp only [Bool.and_eq_true] at this
    have h2:=this.2.1
    rw [Int.toNat_natCast]
    cases hs:(Vbdeam.readName k).isSome with
    | true =>
      rw [hs] at h2
      refine ⟨fun z=>?_,fun z=>absurd ⟨by omega,rfl⟩ z⟩
      rw [decide_eq_true z] at h2
      cases h2
    | false =>
      rw [hs] at h2
      refine ⟨fun z y=>absurd y.2 (by decide),fun z=>?_⟩
      by_cases q:bK (k:Int) = ""
      · exact q
      · rw [decide_eq_false q] at h2
        cases h2
theorem yR {q:Vbdeaa.Q}:oF q.1 (q.2:Nat)=gM 0 (.push q):=by
  obtain ⟨n,d⟩:=q
  show (decide (0≤n∧1≤(d:Int)∧n≤1000000000000000000∧(d:Int)≤1000000000000000000) && (Nat.gcd n.toNat ((d:Int)).toNat==1))=((decide (n.natAbs≤Vbdeaa.B) && (decide (1≤d) && decide (d≤Vbdeaa.B)) && Nat.gcd n.natAbs d==1) && decide (0≤n))
  have hB:Vbdeaa.B=1000000000000000000:=by decide +kernel
  rw [hB,Int.toNat_natCast]
  by_cases h0:0≤n
  · rw [show n.toNat=n.natAbs by omega,decide_eq_true h0,Bool.and_true]
    congr 1
    rw [Bool.eq_iff_iff]
    simp only [Bool.and_eq_true,decide_eq_true_eq]
    omega
  · rw [decide_eq_false h0,Bool.and_false,decide_eq_false (p:=0≤n∧_) (fun z=>h0 z.1),Bool.false_and]
theorem Gp (i:Ins):Shape i.told:=by
  cases i with
  | push q=>exact ⟨0,rfl,by decide,rfl⟩
  | arg q=>exact ⟨1,rfl,by decide,rfl⟩
  | var q=>exact ⟨2,rfl,by decide,rfl⟩
  | un q=>exact ⟨3,rfl,by decide,rfl⟩
  | bin q=>exact ⟨4,rfl,by decide,rfl⟩
  | jump q=>exact ⟨5,rfl,by decide,rfl⟩
  | zero q=>exact ⟨6,rfl,by decide,rfl⟩
  | table q=>exact ⟨7,rfl,by decide,rfl⟩
  | call q r=>exact ⟨8,rfl,by decide,rfl⟩
  | truth=>exact ⟨9,rfl,by decide,rfl⟩
  | best q=>exact ⟨10,rfl,by decide,rfl⟩
theorem eZ {n f k:Int} (h2:f≠2):dj n [f,k]=(decide (0≤k) && (decide (f=5∨f=6) || decide (k < gr f n))):=by
  unfold dj
  split
  · rename_i h; cases h
  · rename_i h; injection h with h _; exact absurd h h2
  · rename_i h; cases h
  · rename_i h; cases h
  · rename_i h; cases h; rfl
  · rename_i h1 h2 h3 h4 h5; exact absurd rfl (h5 f k)
theorem uf {n:Nat} (i:Ins):dj n i.told=gM n i:=by
  cases i with
  | push q=>exact yR
  | arg k =>
    show dj n [1,(k:Int)]=decide (k < n)
    rw [eZ (by decide),decide_eq_true (show (0:Int)≤k by omega),show gr 1 n=n from rfl]
    simp
  | var k =>
    show (!decide (bK (k:Int) = ""))=(Vbdeam.readName k).isSome
    have:=vX (k:Int)
    rw [Int.toNat_natCast] at this
    cases hs:(Vbdeam.readName k).isSome with
    | true=>rw [decide_eq_false (fun z=>(this.mp z) ⟨by omega,hs⟩)]; rfl
    | false=>rw [decide_eq_true (this.mpr (fun z=>by rw [hs] at z; exact absurd z.2 (by decide)))]; rfl
  | un o=>cases o <;> (show dj n [3,_]=true; rw [eZ (by decide)]; rfl)
  | bin o=>cases o <;> (show dj n [4,_]=true; rw [eZ (by decide)]; rfl)
  | jump k =>
    show dj n [5,(k:Int)]=true
    rw [eZ (by decide),decide_eq_true (show (0:Int)≤k by omega)]
    rfl
  | zero k =>
    show dj n [6,(k:Int)]=true
    rw [eZ (by decide),decide_eq_true (show (0:Int)≤k by omega)]
    rfl
  | table k =>
    show dj n [7,(k:Int)]=decide (k < 64)
    rw [eZ (by decide),decide_eq_true (show (0:Int)≤k by omega),show gr 7 n=64 from rfl]
    simp only [Bool.true_and]
    rw [decide_eq_false (by decide),Bool.false_or]
    exact decide_eq_decide.mpr ⟨fun z=>by omega,fun z=>by omega⟩
  | call f m =>
    show (decide (0≤(f:Int)∧(f:Int) < 64) && decide (0≤(m:Int)∧(m:Int)≤8))=(decide (f < 64) && decide (m≤8))
    congr 1
    · exact decide_eq_decide.mpr ⟨fun z=>by omega,fun z=>by omega⟩
    · exact decide_eq_decide.mpr ⟨fun z=>by omega,fun z=>by omega⟩
  | truth=>rfl
  | best g=>cases g <;> (show dj n [10,_]=true; rw [eZ (by decide)]; rfl)
theorem Kl {n:Nat} {row:List Int} (h:Shape row) (hr:dj n row=true):∃ i,row=i.told∧gM n i=true∧∀ r,hd (row++r)=some (i,r):=by
  obtain ⟨i,hi,hh⟩:∃ i,row=i.told∧∀ r,hd (row++r)=some (i,r):=by
    have twoCase:∀ (f a:Int) (i:Ins),f≠9→Vbdeaa.one f a=some i→∀ r,hd ([f,a]++r)=some (i,r):=fun f a i h9 ho r=>by
      show hd (f :: a :: r)=some (i,r)
      have h0:f≠0:=fun z=>by subst z; unfold Vbdeaa.one at ho; split at ho <;> simp at ho
      have h8:f≠8:=fun z=>by subst z; unfold Vbdeaa.one at ho; split at ho <;> simp at ho
      unfold hd
      split
      · rename_i z; cases z
      · rename_i z; injection z with z _; exact absurd z h9
      · rename_i z; injection z with z _; exact absurd z h0
      · rename_i z; injection z with z _; exact absurd z h8
      · rename_i z; cases z; rw [ho]
      · rename_i z; cases z
    have two:∀ (f a:Int) (i:Ins),f≠9→Vbdeaa.one f a=some i→∃ i,[f,a]=i.told∧∀ r,hd ([f,a]++r)=some (i,r):=fun f a i h9 ho=>⟨i,MX.yU ho,twoCase f a i h9 ho⟩
    obtain ⟨f,hf0,hf1,hf2⟩:=id h
    rcases qN h with ⟨a,b,rfl⟩ | ⟨a,rfl⟩ | ⟨a,b,rfl⟩ | rfl | ⟨f0,a,rfl,n0,n2,n8,n9⟩
    · have hp:oF a b=true:=hr
      unfold oF at hp
      simp only [Bool.and_eq_true,decide_eq_true_eq] at hp
      refine ⟨.push (a,b.toNat),by show [0,a,b]=[0,a,((b.toNat:Nat):Int)]; rw [Int.toNat_of_nonneg (by omega)],fun r=>?_⟩
      show (if b < 0 then none else some (Ins.push (a,b.toNat),r))=_
      rw [if_neg (by omega)]
    · have hp:(!decide (bK a = ""))=true:=hr
      have hn:¬ bK a = "":=by simpa using hp
      have h0:0≤a:=Classical.byContradiction fun z=>hn ((vX a).mpr fun y=>z y.1)
      exact two 2 a (.var a.toNat) (by decide) (by unfold Vbdeaa.one; rw [if_neg (by omega)]; rfl)
    · have hp:(decide (0≤a∧a < 64) && decide (0≤b∧b≤8))=true:=hr
      simp only [Bool.and_eq_true,decide_eq_true_eq] at hp
      refine ⟨.call a.toNat b.toNat,by show [8,a,b]=[8,((a.toNat:Nat):Int),((b.toNat:Nat):Int)]; rw [Int.toNat_of_nonneg (by omega),Int.toNat_of_nonneg (by omega)],fun r=>?_⟩
      show (if a < 0∨b < 0 then none else some (Ins.call a.toNat b.toNat,r))=_
      rw [if_neg (by omega)]
    · exact ⟨.truth,rfl,fun r=>rfl⟩
    · have hf:f0=(f:Int):=Option.some.inj hf0
      rw [eZ n2] at hr
      simp only [Bool.and_eq_true,Bool.or_eq_true,decide_eq_true_eq] at hr
      obtain ⟨ha,hr⟩:=hr
      have hc:f=1∨f=3∨f=4∨f=5∨f=6∨f=7∨f=10:=by omega
      have na:¬ a < 0:=by omega
      rcases hc with rfl | rfl | rfl | rfl | rfl | rfl | rfl <;> subst hf
      · exact two 1 a (.arg a.toNat) (by decide) (by unfold Vbdeaa.one; rw [if_neg na]; rfl)
      · have h8:a < 8:=by
          rcases hr with hr | hr
          · omega
          · exact hr
        obtain ⟨o,ho⟩:∃ o,Vbdeaa.UNS[a.toNat]?=some o:=⟨_,List.getElem?_eq_getElem (show a.toNat < Vbdeaa.UNS.length from by show a.toNat < 8; omega)⟩
        exact two 3 a (.un o) (by decide) (by unfold Vbdeaa.one; rw [if_neg na]; show (Vbdeaa.UNS[a.toNat]?).map Ins.un=_; rw [ho]; rfl)
      · have h8:a < 13:=by
          rcases hr with hr | hr
          · omega
          · exact hr
        obtain ⟨o,ho⟩:∃ o,Vbdeaa.BINS[a.toNat]?=some o:=⟨_,List.getElem?_eq_getElem (show a.toNat < Vbdeaa.BINS.length from by show a.toNat < 13; omega)⟩
        exact two 4 a (.bin o) (by decide) (by unfold Vbdeaa.one; rw [if_neg na]; show (Vbdeaa.BINS[a.toNat]?).map Ins.bin=_; rw [ho]; rfl)
      · exact two 5 a (.jump a.toNat) (by decide) (by unfold Vbdeaa.one; rw [if_neg na]; rfl)
      · exact two 6 a (.zero a.toNat) (by decide) (by unfold Vbdeaa.one; rw [if_neg na]; rfl)
      · exact two 7 a (.table a.toNat) (by decide) (by unfold Vbdeaa.one; rw [if_neg na]; rfl)
      · have h8:a < 2:=by
          rcases hr with hr | hr
          · omega
          · exact hr
        have:a=0∨a=1:=by omega
        rcases this with rfl | rfl
        · exact two 10 0 (.best false) (by decide) rfl
        · exact two 10 1 (.best true) (by decide) rfl
  exact ⟨i,hi,by rw [← uf,← hi]; exact hr,hh⟩
end SB
end
section
set_option Elab.async false
set_option maxRecDepth 100000
set_option maxHeartbeats 4000000
set_option linter.all false
namespace SB
open PySem PySem.Spec PyProof.Rows L2 XL
open Vbdeaa (Text Exp Exps Un Bin Ins)
open MX (gM hd Cut)
structure XC (P:Program) (w:World) (K:PySem.W.Frag) (mg:Str→Option Value) (base:Heap) (x:Str) (C fI:Addr) (fd:FuncData) (n:Int):Prop where
  made:Uz K C fI
  cls:qD K C
  m:mg x=some (.ref C)
  b:Binds K fd ["self"] []
  ok:aL P w K mg base (bh P w) 2 fI fd ["self"] (LK K n)
def bB (C:Addr) (n:Int) (H:Hp) (E:XK):Prop:=∀ e d H',az H H'→H' e=some (Li e C d)→H' d=some (.xd [("number",.int n)])→E (.ref C) (some d) H'
theorem bB.mono {C:Addr} {n:Int} {H H1:Hp} {E:XK} (s:az H H1) (h:bB C n H E):bB C n H1 E:=fun e d H' s' h1 h2=>h e d H' (s.trans s') h1 h2
theorem bB.go {C:Addr} {n:Int} {H:Hp} {E:XK} {D:Ends} {σ:L2.St} (h:bB C n H E):H_ C n E D σ H:=fun e d H' s' h1 h2=>h e d H' s' h1 h2
def fX (c:Vbdeaa.Code):List (List Int):=c.map Ins.told
def b8 (H:Hp) (c:Vbdeaa.Code) (ts:List Addr):Prop:=Paired (fun row t=>H t=some (.tup (vI row))) (fX c) ts
theorem b8.same {H H':Hp} {c:Vbdeaa.Code} {ts:List Addr} (s:az H H') (h:b8 H c ts):b8 H' c ts:=dm h fun _ _ _ q=>s _ _ q
def Im (K:PySem.W.Frag) (Cn:Addr):Sp:=fun vs H Q E=>∃ (l:Addr) (n:Nat) (code:List Int),vs=[.ref l,.int n]∧bG K H l (vI code)∧code.length≤1000 ∧
  (∀ c,Cut n code c→∀ R ts H',H R=none→az H H'→H' R=some (.lst (ts.map V.ref))→b8 H' c ts→R∉ts→Q (.ref R) H')∧((∀ c,¬ Cut n code c)→bB Cn (-3) H E)
abbrev Jg:Stmt:=top 63
theorem Oe {xs:List V} {a k:Nat}:oW xs (some (a:Int)) (some ((a+k:Nat):Int))=(xs.drop a).take k:=by
  unfold oW
  rw [HT.wZ,HT.wZ]
  by_cases h:a≤xs.length
  · rw [Nat.min_eq_left h]
    by_cases h2:a+k≤xs.length
    · rw [Nat.min_eq_left h2]
      congr 1
      omega
    · rw [Nat.min_eq_right (by omega),List.take_of_length_le (by rw [List.length_drop]; omega),List.take_of_length_le (by rw [List.length_drop]; omega)]
  · rw [List.drop_eq_nil_of_le (show xs.length≤min a xs.length by omega),List.drop_eq_nil_of_le (show xs.length≤a by omega)]
    simp
theorem Ln (l:List Int) (k:Nat):(vI l).drop k=vI (l.drop k):=List.map_drop.symm
theorem Lk (l:List Int) (k:Nat):(vI l).take k=vI (l.take k):=List.map_take.symm
theorem dg (l:List Int):(vI l).length=l.length:=List.length_map ..
theorem Qa (l:List Int) (k:Nat):(vI l)[k]?=(l[k]?).map V.int:=List.getElem?_map ..
section
variable {P:Program} {w:World} {K:PySem.W.Frag} {mg:Str→Option Value} {base:Heap}
theorem yC:aN ["code","n","rows","at","row"] ["code","n"] (aD Jg):=⟨rfl,rfl,rfl,by decide +kernel,rfl,by decide +kernel,by decide +kernel⟩
theorem QZ {f fR Cn fI:Addr} {fd dR dI:FuncData} (F:Fn K mg "instructions_in" Jg f fd ["code","n"]) (FR:Fn K mg "is_right_instruction" t_ fR dR ["row","n"]) (GR:aL P w K mg base (bh P w) 3 fR dR ["row","n"] wO) (X:XC P w K mg base "NoCode" Cn fI dI (-3)) (T:CP K mg) (R:CR K mg) :
    aL P w K mg base (bh P w) 4 f fd ["code","n"] (Im K Cn):=by
  refine fV F.F yC (fun vs H Q E h=>?_) (fun cdv A outer s H vs Q E hr h=>?_)
  · obtain ⟨_,_,_,rfl,_⟩:=h
    rfl
  · obtain ⟨l,n,code,rfl,hl,hlen,k,kr⟩:=h
    refine ⟨_,aj (aW (i:=2) yC.nd rfl (Or.inl rfl) (bW aq)) (aj (aW (i:=3) yC.nd rfl (Or.inl rfl) aA)
      (aj (jU pQ (aG jw (pv 3) (bJ bc (by rfl) T.len (by decide +kernel) (aa (pv 0) aq)) (aK _))
        (aj (aY (jh ((oh lR jw aA (bj cD (pv 0) (pv 3) (fun _ _=>rfl)) (sE rfl rfl T.len R.LE)))) (ao (b_ X.made X.cls X.ok hr rfl X.m X.b rfl bU)) aH)
        (aj (aW (i:=4) yC.nd rfl (Or.inl rfl) (fc vq (by rfl) R.tuple (by decide +kernel) (aa (oE wU (pv 0) (kO (pv 3)) (kO (cJ gA (pv 3) (xu rfl R.LE (bj cD (pv 0) (pv 3) (fun _ _=>rfl)) (fun _ _=>rfl))))) aq)))
        (aj (aY (PW.pt (qQ (aG jw (bJ bc (by rfl) T.len (by decide +kernel) (aa (pv 4) aq)) (xu rfl R.LE (bj cD (pv 0) (pv 3) (fun _ _=>rfl)) (fun _ _=>rfl)) (aK _))
            (pM (jh (my (aQ GR hr rfl FR.m FR.F.kp FR.b .nil passes (aa (pv 4) (aa (pv 1) aq)))))))) (ao (b_ X.made X.cls X.ok hr rfl X.m X.b rfl bU)) aH)
        (aj (bf (iU PySem.F.plainAttrs_list PySem.F.slot_list_append PySem.F.type_list_append f9 (pv 2) (aa (pv 4) aq)))
        (ao (Bd (i:=3) yC.nd rfl (Or.inl rfl) (bJ bc (by rfl) T.len (by decide +kernel) (aa (pv 4) aq)) Kf)))))))
      (ao (aJ (pv 2))))),?_⟩
    refine ⟨by decide,fun R0 hR0=>?_⟩
    refine ⟨fun m σ H'=>∃ (c1:Vbdeaa.Code) (R:Addr) (ts:List Addr) (i:Nat) (v:Option V),σ=[some (.ref l),some (.int n),some (.ref R),some (.int i),v]∧m=code.length - i∧i≤code.length∧H R=none∧az H H'∧H' R=some (.lst (ts.map V.ref))∧b8 H' c1 ts∧R∉ts∧c1.length≤i ∧
      (∀ c',Cut n (code.drop i) c'→Cut n code (c1++c'))∧(∀ c,Cut n code c→∃ c',c=c1++c'∧Cut n (code.drop i) c'),
      ⟨code.length,[],R0,[],0,none,rfl,by simp,Nat.zero_le _,hR0,az.upd hR0,ak,.nil,by simp,Nat.le_refl _,fun c' h=>h,fun c h=>⟨c,rfl,h⟩⟩,?_⟩
    rintro m σ H' ⟨c1,R,ts,i,v,rfl,rfl,hi,hR,s1,hR1,hts,hRts,hci,kf,kb⟩
    have hl1:=az.seq s1 hl
    refine ⟨_,rfl,_,rfl,l,_,rfl,.inl hl1,i,_,rfl,rfl,_,rfl,?_⟩
    rw [dg]
    refine bO (fun hlt=>?_) fun hlt=>?_
    · have hlt:i < code.length:=by
        have:=of_decide_eq_true hlt
        omega
      obtain ⟨f0,hf0⟩:∃ f0,code[i]?=some f0:=⟨_,List.getElem?_eq_getElem hlt⟩
      have hat:lF (vI code) (i:Int)=some (V.int f0):=jr (by rw [Qa,hf0]; rfl)
      have hne:code.drop i≠[]:=fun z=>by
        have:=congrArg List.length z
        rw [List.length_drop] at this
        simp at this
        omega
      have hhead:(code.drop i)[0]?=some f0:=by rw [List.getElem?_drop,Nat.add_zero,hf0]
      have shape:∀ c',Cut n (code.drop i) c'→∃ ii r c2,hd (code.drop i)=some (ii,r)∧gM n ii=true∧code.drop i=ii.told++r∧Cut n r c2∧c'=ii :: c2∧∃ fn:Nat,f0=fn∧fn < 11∧Ck[fn]?=some (ii.told.length:Int):=fun c' hc'=>by
        obtain ⟨ii,r,c2,h1,h2,h3,h4⟩:=MX.DX hne hc'
        have h5:=MX.Dv h1
        obtain ⟨fn,g1,g2,g3⟩:=Gp ii
        refine ⟨ii,r,c2,h1,h2,h5,h3,h4,fn,?_,g2,g3⟩
        have hpos:=MX.yp ii
        rw [h5,List.getElem?_append_left (by omega),g1] at hhead
        exact (Option.some.inj hhead).symm
      have stuck:(∀ c',¬ Cut n (code.drop i) c')→bB Cn (-3) H' E:=fun hno=>(kr fun c hc=>by
        obtain ⟨c',_,h2⟩:=kb c hc
        exact hno c' h2).mono s1
      refine ⟨fun σ' H''=>∃ m',m' < code.length - i∧∃ (c1:Vbdeaa.Code) (R:Addr) (ts:List Addr) (i:Nat) (v:Option V),σ'=[some (.ref l),some (.int n),some (.ref R),some (.int i),v]∧m'=code.length - i∧i≤code.length∧H R=none∧az H H''∧H'' R=some (.lst (ts.map V.ref))∧b8 H'' c1 ts∧R∉ts∧c1.length≤i ∧
        (∀ c',Cut n (code.drop i) c'→Cut n code (c1++c'))∧(∀ c,Cut n code c→∃ c',c=c1++c'∧Cut n (code.drop i) c'),fun σ' H'' h=>h,?_⟩
      have bad:¬ (0≤f0∧f0 < 11)→bB Cn (-3) H' E:=fun hb=>stuck fun c' hc'=>by
        obtain ⟨_,_,_,_,_,_,_,_,fn,g1,g2,_⟩:=shape c' hc'
        exact hb (by omega)
      refine ⟨_,rfl,_,rfl,l,_,_,_,rfl,rfl,hl1,hat,0,f0,rfl,rfl,_,rfl,bO (fun h1=>?_) fun h1=>?_⟩
      rotate_left
      · refine ⟨_,rfl,cF ?_⟩
        exact (bad fun z=>h1 (decide_eq_true z.1)).go
      have h1:0≤f0:=of_decide_eq_true h1
      refine ⟨f0,11,rfl,rfl,_,rfl,?_⟩
      by_cases h2:f0 < 11
      rotate_left
      · rw [decide_eq_false h2]
        exact cF (bad fun z=>h2 z.2).go
      rw [decide_eq_true h2]
      refine aZ ?_
      obtain ⟨fn,rfl⟩:∃ fn:Nat,f0=fn:=⟨f0.toNat,by omega⟩
      obtain ⟨ln,hln⟩:∃ ln:Nat,Ck[fn]?=some (ln:Int):=by
        have:fn < 11:=by omega
        have hc:fn=0∨fn=1∨fn=2∨fn=3∨fn=4∨fn=5∨fn=6∨fn=7∨fn=8∨fn=9∨fn=10:=by omega
        rcases hc with rfl | rfl | rfl | rfl | rfl | rfl | rfl | rfl | rfl | rfl | rfl
        · exact ⟨3,rfl⟩
        · exact ⟨2,rfl⟩
        · exact ⟨2,rfl⟩
        · exact ⟨2,rfl⟩
        · exact ⟨2,rfl⟩
        · exact ⟨2,rfl⟩
        · exact ⟨2,rfl⟩
        · exact ⟨2,rfl⟩
        · exact ⟨3,rfl⟩
        · exact ⟨1,rfl⟩
        · exact ⟨2,rfl⟩
      have hal:lF Ck (fn:Int)=some (ln:Int):=jr hln
      refine ⟨_,rfl,_,rfl,_,rfl,_,rfl,_,rfl,_,rfl,l,_,_,_,rfl,rfl,hl1,hat,_,_,rfl,hal,_,_,rfl,rfl,_,rfl,l,_,rfl,hl1,fun p1 hp1=>?_⟩
      rw [show (i:Int)+(ln:Int)=((i+ln:Nat):Int) by omega,Oe,Ln,Lk]
      have s2:az H' (L2.upd H' p1 (.lst (vI ((code.drop i).take ln)))):=az.upd hp1
      refine ⟨p1,_,rfl,.inl ⟨bG.of ak,fun t ht=>?_⟩⟩
      have s3:=s2.trans (az.upd (o:=.tup (vI ((code.drop i).take ln))) ht)
      generalize hrow:(code.drop i).take ln=row at *
      have hrl:row.length≤ln:=by rw [← hrow,List.length_take]; omega
      have hrl2:row.length≤code.length - i:=by rw [← hrow,List.length_take,List.length_drop]; omega
      have tup:=dY.of (K:=K) (ak (H:=L2.upd H' p1 (.lst (vI row))) (a:=t) (o:=.tup (vI row)))
      refine ⟨_,rfl,t,_,rfl,.inr tup,_,rfl,_,rfl,l,_,_,_,rfl,rfl,(az.seq s3 hl1),hat,_,_,rfl,hal,_,_,rfl,rfl,_,rfl,?_⟩
      rw [dg]
      refine bO (fun h3=>cF ?_) fun h3=>?_
      · have h3:(row.length:Int) < ln:=of_decide_eq_true h3
        refine ((stuck fun c' hc'=>?_).mono s3).go
        obtain ⟨ii,r,_,_,_,h5,_,_,fn',g1,_,g3⟩:=shape c' hc'
        have:fn'=fn:=by omega
        subst this
        rw [hln] at g3
        have g4:ln=ii.told.length:=by
          have:=Option.some.inj g3
          omega
        rw [h5,g4,List.take_left] at hrow
        rw [← hrow] at h3
        omega
      have hrow3:row.length=ln:=by
        have:¬ ((row.length:Int) < ln):=fun z=>h3 (decide_eq_true z)
        omega
      have hln0:1≤ln:=by
        have hall:∀ x∈Ck,1≤x:=by decide
        have:=hall _ (List.mem_of_getElem? hln)
        omega
      have hsh:Shape row:=by
        refine ⟨fn,?_,by omega,by rw [hrow3]; exact hln⟩
        rw [← hrow,List.getElem?_take,if_pos (by omega),hhead]
      have hdrop:code.drop i=row++code.drop (i+ln):=by rw [← hrow,← List.drop_drop,List.take_append_drop]
      refine ⟨_,rfl,_,rfl,t,row,n,rfl,ak,hsh,fun H4 s4=>?_⟩
      have s5:=s3.trans s4
      refine ⟨_,rfl,?_⟩
      cases hrb:dj n row with
      | false =>
        refine cF ((stuck fun c' hc'=>?_).mono s5).go
        obtain ⟨ii,r,_,_,hok,h5,_,_,fn',g1,_,g3⟩:=shape c' hc'
        have:fn'=fn:=by omega
        subst this
        rw [hln] at g3
        have g4:ln=ii.told.length:=by
          have:=Option.some.inj g3
          omega
        rw [h5,g4,List.take_left] at hrow
        rw [← hrow,uf,hok] at hrb
        cases hrb
      | true =>
        refine aZ ?_
        obtain ⟨ii,hii,hok,hhd⟩:=Kl hsh hrb
        have hR4:=s5 _ _ hR1
        have nRt:R≠t:=fun z=>by rw [← z] at ht; rw [s2 _ _ hR1] at ht; cases ht
        have hlc:c1.length=ts.length:=by
          have:=Paired.length hts
          unfold fX at this
          rw [List.length_map] at this
          exact this
        refine ⟨_,rfl,.inl ⟨rfl,_,bG.of hR4⟩,_,rfl,R,_,_,rfl,rfl,hR4,?_,?_⟩
        · rw [List.length_map,← hlc]
          exact Nat.lt_of_le_of_lt (by omega:_≤1000) (by decide)
        have ht4:=s4 _ _ (ak (H:=L2.upd H' p1 (.lst (vI row))) (a:=t) (o:=.tup (vI row)))
        refine ⟨_,rfl,_,rfl,t,_,rfl,.inr (dY.of (by rw [au (Ne.symm nRt)]; exact ht4)),_,_,rfl,rfl,?_⟩
        rw [dg]
        refine ⟨code.length - (i+ln),by omega,c1++[ii],R,ts++[t],i+ln,some (.ref t),?_,rfl,by omega,hR,?_,?_,?_,?_,?_,?_,?_⟩
        · rw [show ((i+ln:Nat):Int)=(i:Int)+(row.length:Int) by omega]
          rfl
        · intro b o q
          rw [au (aB q hR)]
          exact s5 _ _ (s1 _ _ q)
        · rw [ak,List.map_append]
          rfl
        · unfold b8 fX
          rw [List.map_append]
          refine cV (dm hts fun a b hb q=>?_) ?_
          · have nb:b≠R:=fun z=>by
              rw [z,hR1] at q
              cases q
            rw [au nb]
            exact s5 _ _ q
          · rw [au (Ne.symm nRt),← hii]
            exact ht4
        · simp only [List.mem_append,List.mem_cons,List.not_mem_nil,or_false,not_or]
          exact ⟨hRts,nRt⟩
        · rw [List.length_append,List.length_cons,List.length_nil]
          omega
        · intro c' hc'
          rw [List.append_assoc]
          refine kf _ (MX.KQ ?_ hok hc')
          rw [hdrop]
          exact hhd _
        · intro c hc
          obtain ⟨c',rfl,hc'⟩:=kb c hc
          obtain ⟨ii',r,c2,h1',h2',h5',h3',rfl,_⟩:=shape c' hc'
          rw [hdrop,hhd] at h1'
          cases h1'
          exact ⟨c2,by rw [List.append_assoc]; rfl,h3'⟩
    · have hi2:i=code.length:=by
        have:¬ ((i:Int) < (code.length:Int)):=fun z=>hlt (decide_eq_true z)
        omega
      subst hi2
      refine ⟨_,rfl,k c1 ?_ R ts H' hR s1 hR1 hts hRts⟩
      have:=kf [] (by rw [List.drop_length]; exact MX.Od)
      rw [List.append_nil] at this
      exact this
end
end SB
end
section
set_option Elab.async false
set_option maxRecDepth 100000
set_option maxHeartbeats 4000000
set_option linter.all false
namespace SB
open PySem PySem.Spec PyProof.Rows L2 XL
open Vbdeaa (Text Exp Exps Un Bin Ins)
open MX (gM hd Cut MS Ch bC)
def off (M:List Addr) (H:Hp):Hp:=fun b=>if b∈M then none else H b
theorem aO (M:List Addr) (H:Hp):az (off M H) H:=fun b o e=>by
  unfold off at e
  split at e
  · cases e
  · exact e
theorem cz {M:List Addr} {H:Hp} {b:Addr} {o:HO} (h:H b=some o) (hb:b∉M):off M H b=some o:=by
  unfold off
  rw [if_neg hb]
  exact h
theorem jj {M:List Addr} {H:Hp} {b:Addr} {o:HO} (h:off M H b=some o):b∉M:=by
  unfold off at h
  split at h
  · cases h
  · assumption
theorem fu {M:List Addr} {H:Hp} {b:Addr} {o:HO} (h:b∈M):off M (L2.upd H b o)=off M H:=by
  funext x
  unfold off
  by_cases hx:x∈M
  · rw [if_pos hx,if_pos hx]
  · rw [if_neg hx,if_neg hx,au (fun z=>hx (by rw [z]; exact h))]
def Ff (lr:Addr) (i:Int) (lw lc:Addr):List (Str×V):=[("rows",.ref lr),("at",.int i),("waiting",.ref lw),("choices",.ref lc)]
def uR (cd:Addr) (s m e b:Int) (fp:V):List (Str×V):=[("condition",.ref cd),("start",.int s),("middle",.int m),("end",.int e),("base",.int b),("first_part",fp)]
def ju (C:Addr) (G:Hp):Option Exp→V→Prop
  | none,v=>v=.non
  | some f,v=>∃ a,v=.ref a∧aV C G f a
inductive gD (C CC:Addr) (G H:Hp):List Ch→List Addr→Prop
  | nil:gD C CC G H [] []
  | cons {x:Ch} {r:List Ch} {a dx cd:Addr} {as:List Addr} {fp:V}:H a=some (.ins CC dx (uR cd (x.start:Nat) (x.middle:Nat) (x.end_:Nat) ((bC (x :: r)).length:Nat) fp))→aV C G x.cond cd→ju C G x.first fp→gD C CC G H r as→gD C CC G H (x :: r) (a :: as)
theorem ju.same {C:Addr} {G G':Hp} {o:Option Exp} {v:V} (s:az G G') (h:ju C G o v):ju C G' o v:=by
  cases o with
  | none=>exact h
  | some f=>obtain ⟨a,e,q⟩:=h; exact ⟨a,e,q.same s⟩
theorem gD.mono {C CC:Addr} {G G' H H':Hp} (s:az G G'):∀ {chs:List Ch} {as:List Addr},(∀ b∈as,H' b=H b)→gD C CC G H chs as→gD C CC G' H' chs as
  | _,_,_,.nil=>.nil
  | _,_,k,.cons h1 h2 h3 h4=>.cons (by rw [k _ List.mem_cons_self]; exact h1) (h2.same s) (h3.same s) (gD.mono s (fun b hb=>k b (List.mem_cons_of_mem _ hb)) h4)
def waitOf (s:MS):List Exp:=s.cur++bC s.chs
structure d9 (C R CC:Addr) (H:Hp) (r:Addr) (M:List Addr) (c:Vbdeaa.Code) (s:MS) (dx lr lw lc:Addr) (ts ws cs:List Addr):Prop where
  mem:M=r :: lw :: lc :: cs
  nd:M.Nodup
  obj:H r=some (.ins R dx (Ff lr (s.pos:Nat) lw lc))
  rows:off M H lr=some (.lst (ts.map V.ref))
  told:b8 (off M H) c ts
  wl:H lw=some (.lst (ws.reverse.map V.ref))
  wn:Paired (aV C (off M H)) (waitOf s) ws
  cl:H lc=some (.lst (cs.reverse.map V.ref))
  cn:gD C CC (off M H) H s.chs cs
def Rec (C R CC:Addr) (H:Hp) (r:Addr) (M:List Addr) (c:Vbdeaa.Code) (s:MS):Prop:=∃ dx lr lw lc ts ws cs,d9 C R CC H r M c s dx lr lw lc ts ws cs
structure gb (M:List Addr) (H H':Hp):Prop where
  ins:∀ b∈M,H' b=H b
  out:az (off M H) (off M H')
theorem gD.there {C CC:Addr} {G H:Hp}:∀ {chs:List Ch} {as:List Addr},gD C CC G H chs as→∀ b∈as,∃ o,H b=some o
  | _,_,.nil,b,hb=>by cases hb
  | _,_,.cons h1 _ _ h4,b,hb=>by
    rcases List.mem_cons.mp hb with z | hb
    · subst z; exact ⟨_,h1⟩
    · exact h4.there b hb
theorem d9.there {C R CC:Addr} {H:Hp} {r:Addr} {M:List Addr} {c:Vbdeaa.Code} {s:MS} {dx lr lw lc:Addr} {ts ws cs:List Addr} (h:d9 C R CC H r M c s dx lr lw lc ts ws cs):∀ b∈M,∃ o,H b=some o:=by
  intro b hb
  rw [h.mem] at hb
  rcases List.mem_cons.mp hb with z | hb
  · subst z; exact ⟨_,h.obj⟩
  rcases List.mem_cons.mp hb with z | hb
  · subst z; exact ⟨_,h.wl⟩
  rcases List.mem_cons.mp hb with z | hb
  · subst z; exact ⟨_,h.cl⟩
  · exact h.cn.there b hb
theorem d9.keep {C R CC:Addr} {H H':Hp} {r:Addr} {M:List Addr} {c:Vbdeaa.Code} {s:MS} {dx lr lw lc:Addr} {ts ws cs:List Addr} (h:d9 C R CC H r M c s dx lr lw lc ts ws cs) (k:gb M H H'):d9 C R CC H' r M c s dx lr lw lc ts ws cs:=by
  have m1:r∈M:=by rw [h.mem]; exact List.mem_cons_self
  have m2:lw∈M:=by rw [h.mem]; exact List.mem_cons_of_mem _ List.mem_cons_self
  have m3:lc∈M:=by rw [h.mem]; exact List.mem_cons_of_mem _ (List.mem_cons_of_mem _ List.mem_cons_self)
  exact ⟨h.mem,h.nd,by rw [k.ins _ m1]; exact h.obj,k.out _ _ h.rows,h.told.same k.out,by rw [k.ins _ m2]; exact h.wl,cR k.out h.wn,by rw [k.ins _ m3]; exact h.cl,
    h.cn.mono k.out (fun b hb=>k.ins b (by rw [h.mem]; exact List.mem_cons_of_mem _ (List.mem_cons_of_mem _ (List.mem_cons_of_mem _ hb))))⟩
theorem gb.of_same {M:List Addr} {H H':Hp} (hM:∀ b∈M,∃ o,H b=some o) (s:az H H'):gb M H H':=by
  refine ⟨fun b hb=>?_,fun b o e=>?_⟩
  · obtain ⟨o,ho⟩:=hM b hb
    rw [ho]
    exact s _ _ ho
  · exact cz (s _ _ (aO _ _ _ _ e)) (jj e)
theorem gb.trans {M:List Addr} {H H1 H2:Hp} (a:gb M H H1) (b:gb M H1 H2):gb M H H2:=⟨fun x hx=>(b.ins x hx).trans (a.ins x hx),a.out.trans b.out⟩
theorem eO {C:Addr} {M:List Addr} {H1:Hp} {e:Exp} {D:V} {l:Addr} {as:List Addr} {Q:VK} {E:XK} (hM:∀ b∈M,∃ o,H1 b=some o) (hD:jC (off M H1) e D) (hl:off M H1 l=some (.lst (as.map V.ref))) (hp:Paired (aV C (off M H1)) (kids e) as) (hlen:as.length < 2000)
    (k:∀ x H2,H1 x=none→gb M H1 H2→aV C (off M H2) e x→Q (.ref x) H2) :
    ∀ x dx,H1 x=none→H1 dx=none→dx≠x→pF C [.ref x,.int (fH e),D,.ref l] (L2.upd (L2.upd H1 dx (.own x)) x (.ins C dx [])) (fun v H2=>v=.non∧Q (.ref x) H2) E:=by
  intro x dx hx hdx hne
  have s1:=az.Um (C:=C) hx hdx
  have s0:=(aO M H1).trans s1
  refine ⟨x,dx,l,e,D,as,rfl,ak,gP (fun b xs q=>s0 b _ q) hD,s0 _ _ hl,cR s0 hp,hlen,fun H' sx hx'=>⟨rfl,?_⟩⟩
  have s2:az H1 H':=fun b o q=>sx b o (s1 b o q) (aB q hx)
  have kp:=gb.of_same hM s2
  have xM:x∉M:=fun z=>by
    obtain ⟨o,ho⟩:=hM x z
    rw [hx] at ho
    cases ho
  exact k x H' hx kp (.mk (cz hx' xM) (gP (fun b xs q=>kp.out b _ q) hD) (kp.out _ _ hl) (cR kp.out hp))
structure O5 (K:PySem.W.Frag) (CC:Addr):Prop where
  cl:Ed K CC
  nC:aX K CC "condition"
  nS:aX K CC "start"
  nM:aX K CC "middle"
  nE:aX K CC "end"
  nB:aX K CC "base"
  nF:aX K CC "first_part"
structure Rx (K:PySem.W.Frag) (R:Addr):Prop where
  cl:Ed K R
  nR:aX K R "rows"
  nA:aX K R "at"
  nW:aX K R "waiting"
  nC:aX K R "choices"
abbrev yJ (i:Nat):Stmt:=inClass (top 66) i
abbrev b7 (i:Nat):Stmt:=inClass (top 67) i
def Iu (CC:Addr):Sp:=fun vs H Q _=>∃ (x dx cd:Addr) (s m e b:Int),vs=[.ref x,.ref cd,.int s,.int m,.int e,.int b]∧H x=some (.ins CC dx [])∧∀ H',dH x H H'→H' x=some (.ins CC dx (uR cd s m e b .non))→Q .non H'
def wQ (CC:Addr):Sp:=fun vs H Q _=>∃ (x dx cd:Addr) (s m e b:Int) (fp:V),vs=[.ref x]∧H x=some (.ins CC dx (uR cd s m e b fp))∧Q (.int (if fp=.non then m - 1 else e)) H
def Ie (R:Addr):Sp:=fun vs H Q _=>∃ (x dx lr:Addr),vs=[.ref x,.ref lr]∧H x=some (.ins R dx [])∧∀ H' lw lc,dH x H H'→H lw=none→H lc=none→lw≠lc→H' lw=some (.lst [])→H' lc=some (.lst [])→H' x=some (.ins R dx (Ff lr 0 lw lc))→Q .non H'
section
variable {P:Program} {w:World} {K:PySem.W.Frag} {mg:Str→Option Value} {base:Heap}
theorem Qw:aN ["self","condition","start","middle","end","base"] ["self","condition","start","middle","end","base"] (aD (yJ 0)):=⟨rfl,rfl,rfl,by decide +kernel,rfl,by decide +kernel,by decide +kernel⟩
theorem Nk {f CC:Addr} {fd:FuncData} (F:jA K "__init__" "Choice.__init__" (yJ 0) f fd) (T:O5 K CC):aL P w K mg base (bh P w) 1 f fd ["self","condition","start","middle","end","base"] (Iu CC):=by
  refine fV F Qw (fun vs H Q E h=>?_) (fun cdv A outer s H vs Q E hr h=>?_)
  · obtain ⟨_,_,_,_,_,_,_,rfl,_⟩:=h
    rfl
  · obtain ⟨x,dx,cd,s0,m,e,b,rfl,hx,k⟩:=h
    refine ⟨_,aj (eE (pv 0) (pv 1) rfl) (aj (eE (pv 0) (pv 2) rfl) (aj (eE (pv 0) (pv 3) rfl) (aj (eE (pv 0) (pv 4) rfl) (aj (eE (pv 0) (pv 5) rfl) (ao (eE (pv 0) QF rfl)))))),?_⟩
    refine ⟨_,rfl,_,rfl,x,CC,dx,[],rfl,hx,T.cl,T.nC,(by decide),?_⟩
    refine ⟨_,rfl,_,rfl,x,CC,dx,_,rfl,ak,T.cl,T.nS,(by show 1 < 1000; decide),?_⟩
    refine ⟨_,rfl,_,rfl,x,CC,dx,_,rfl,ak,T.cl,T.nM,(by show 2 < 1000; decide),?_⟩
    refine ⟨_,rfl,_,rfl,x,CC,dx,_,rfl,ak,T.cl,T.nE,(by show 3 < 1000; decide),?_⟩
    refine ⟨_,rfl,_,rfl,x,CC,dx,_,rfl,ak,T.cl,T.nB,(by show 4 < 1000; decide),?_⟩
    refine ⟨_,rfl,x,CC,dx,_,rfl,ak,T.cl,T.nF,(by show 5 < 1000; decide),?_⟩
    refine k _ (fun y o q hy=>?_) ak
    rw [au hy,au hy,au hy,au hy,au hy,au hy]
    exact q
theorem Mh:aN ["self"] ["self"] (aD (yJ 1)):=⟨rfl,rfl,rfl,by decide +kernel,rfl,by decide +kernel,by decide +kernel⟩
theorem JR {f CC:Addr} {fd:FuncData} (F:jA K "limit" "Choice.limit" (yJ 1) f fd) (T:O5 K CC):aL P w K mg base (bh P w) 1 f fd ["self"] (wQ CC):=by
  refine fV F Mh (fun vs H Q E h=>?_) (fun cdv A outer s H vs Q E hr h=>?_)
  · obtain ⟨_,_,_,_,_,_,_,_,rfl,_⟩:=h
    rfl
  · obtain ⟨x,dx,cd,s0,m,e,b,fp,rfl,hx,k⟩:=h
    refine ⟨_,aj (aY (xm (Be (aF (pv 0) rfl))) (ao (aJ (cJ iH (aF (pv 0) rfl) aA))) aH) (ao (aJ (aF (pv 0) rfl))),?_⟩
    refine ⟨_,rfl,x,CC,dx,_,_,rfl,hx,T.cl,T.nF,rfl,_,rfl,bO (fun h=>?_) fun h=>?_⟩
    · rw [if_pos (of_decide_eq_true h)] at k
      exact ⟨_,rfl,x,CC,dx,_,_,rfl,hx,T.cl,T.nM,rfl,m,1,rfl,rfl,k⟩
    · rw [if_neg (fun z=>h (decide_eq_true z))] at k
      exact ⟨_,rfl,x,CC,dx,_,_,rfl,hx,T.cl,T.nE,rfl,k⟩
theorem Qq:aN ["self","rows"] ["self","rows"] (aD (b7 0)):=⟨rfl,rfl,rfl,by decide +kernel,rfl,by decide +kernel,by decide +kernel⟩
theorem M3 {f R:Addr} {fd:FuncData} (F:jA K "__init__" "Recovery.__init__" (b7 0) f fd) (T:Rx K R):aL P w K mg base (bh P w) 1 f fd ["self","rows"] (Ie R):=by
  refine fV F Qq (fun vs H Q E h=>?_) (fun cdv A outer s H vs Q E hr h=>?_)
  · obtain ⟨_,_,_,rfl,_⟩:=h
    rfl
  · obtain ⟨x,dx,lr,rfl,hx,k⟩:=h
    refine ⟨_,aj (eE (pv 0) (pv 1) rfl) (aj (eE (pv 0) aA rfl) (aj (eE (pv 0) (bW aq) rfl) (ao (eE (pv 0) (bW aq) rfl)))),?_⟩
    refine ⟨_,rfl,_,rfl,x,R,dx,[],rfl,hx,T.cl,T.nR,(by decide),?_⟩
    refine ⟨_,rfl,x,R,dx,_,rfl,ak,T.cl,T.nA,(by show 1 < 1000; decide),?_⟩
    refine ⟨by decide,fun lw hlw=>?_⟩
    have n1:lw≠x:=fun z=>by rw [z,ak] at hlw; cases hlw
    rw [au n1,au n1] at hlw
    refine ⟨_,rfl,x,R,dx,_,rfl,by rw [au (Ne.symm n1)]; exact ak,T.cl,T.nW,(by show 2 < 1000; decide),?_⟩
    refine ⟨by decide,fun lc hlc=>?_⟩
    have n2:lc≠x:=fun z=>by rw [z,ak] at hlc; cases hlc
    rw [au n2] at hlc
    have n3:lc≠lw:=fun z=>by rw [z,ak] at hlc; cases hlc
    rw [au n3,au n2,au n2] at hlc
    refine ⟨_,rfl,x,R,dx,_,rfl,by rw [au (Ne.symm n2)]; exact ak,T.cl,T.nC,(by show 3 < 1000; decide),?_⟩
    refine k _ lw lc (fun y o q hy=>?_) hlw hlc (Ne.symm n3) ?_ ?_ ak
    · rw [au hy,au (aB q hlc),au hy,au (aB q hlw),au hy,au hy]
      exact q
    · rw [au n1,au (Ne.symm n3),au n1]
      exact ak
    · rw [au n2]
      exact ak
end
theorem o5 {α:Type} {xs:List α} {x:α}:lF (xs++[x]) (-1)=some x:=by
  unfold lF
  have e:Lh (xs++[x]).length (-1)=some xs.length:=by
    unfold Lh
    rw [if_neg (by decide)]
    rw [List.length_append,List.length_cons,List.length_nil]
    first
    | rw [if_pos (by omega)]; congr 1; omega
    | (simp only; split <;> first | omega | (congr 1; omega))
  rw [e]
  show (xs++[x])[xs.length]?=some x
  simp
theorem bz {α β:Type} (f:α→β) (a:α) (l:List α):(a :: l).reverse.map f=l.reverse.map f++[f a]:=by simp
structure RT (K:PySem.W.Frag) (mg:Str→Option Value) (C R CC:Addr):Prop where
  N:kE K C
  R:Rx K R
  H:O5 K CC
  P:CP K mg
  Q:CN K mg
  S:CR K mg
def Qn (C R CC:Addr):Sp:=fun vs H Q _=>∃ (r:Addr) (M:List Addr) (c:Vbdeaa.Code) (s:MS),vs=[.ref r]∧Rec C R CC H r M c s∧Q (.int (s.cur.length:Nat)) H
section
variable {P:Program} {w:World} {K:PySem.W.Frag} {mg:Str→Option Value} {base:Heap}
theorem Qu:aN ["self"] ["self"] (aD (b7 2)):=⟨rfl,rfl,rfl,by decide +kernel,rfl,by decide +kernel,by decide +kernel⟩
theorem Dn {f C R CC:Addr} {fd:FuncData} (F:jA K "free" "Recovery.free" (b7 2) f fd) (T:RT K mg C R CC):aL P w K mg base (bh P w) 1 f fd ["self"] (Qn C R CC):=by
  refine fV F Qu (fun vs H Q E h=>?_) (fun cdv A outer s H vs Q E hr h=>?_)
  · obtain ⟨_,_,_,_,rfl,_⟩:=h
    rfl
  · obtain ⟨r,M,c,ms,rfl,⟨dx,lr,lw,lc,ts,ws,cs,D⟩,k⟩:=h
    refine ⟨_,aj (aY (iT (aF (pv 0) rfl) (fun _=>rfl)) (ao (aJ (cJ iH (bJ bc (by rfl) T.P.len (by decide +kernel) (aa (aF (pv 0) rfl) aq)) (aF (bj cD (aF (pv 0) rfl) (gC d_ aA) (fun _ _=>rfl)) rfl)))) aH)
      (ao (aJ (bJ bc (by rfl) T.P.len (by decide +kernel) (aa (aF (pv 0) rfl) aq)))),?_⟩
    have hwl:(ws.reverse.map V.ref).length=ms.cur.length+(bC ms.chs).length:=by
      rw [List.length_map,List.length_reverse,← Paired.length D.wn]
      unfold waitOf
      rw [List.length_append]
    refine ⟨_,rfl,r,R,dx,_,_,rfl,D.obj,T.R.cl,T.R.nC,rfl,_,.inl ⟨_,bG.of D.cl,rfl⟩,?_⟩
    have hcn:=D.cn
    cases hs:ms.chs with
    | nil =>
      rw [hs] at hcn hwl
      cases hcn
      refine aZ ⟨_,rfl,r,R,dx,_,_,rfl,D.obj,T.R.cl,T.R.nW,rfl,lw,_,rfl,.inl (bG.of D.wl),?_⟩
      rw [hwl]
      exact k
    | cons x q =>
      rw [hs] at hcn hwl
      cases hcn with
      | @cons _ _ a dxa cd as fp h1 h2 h3 h4 =>
        have hcl:=D.cl
        rw [bz] at hcl ⊢
        rw [show (!(as.reverse.map V.ref++[V.ref a]).isEmpty)=true by simp]
        refine cF ⟨_,rfl,r,R,dx,_,_,rfl,D.obj,T.R.cl,T.R.nW,rfl,lw,_,rfl,.inl (bG.of D.wl),_,rfl,r,R,dx,_,_,rfl,D.obj,T.R.cl,T.R.nC,rfl,_,rfl,lc,_,_,_,rfl,rfl,bG.of hcl,o5,a,CC,dxa,_,_,rfl,h1,T.H.cl,T.H.nB,rfl,_,_,rfl,rfl,?_⟩
        rw [hwl]
        show Q (V.int (((ms.cur.length+(bC (x :: q)).length:Nat):Int) - ((bC (x :: q)).length:Nat))) H
        rw [show (((ms.cur.length+(bC (x :: q)).length:Nat):Int) - ((bC (x :: q)).length:Nat))=(ms.cur.length:Nat) by omega]
        exact k
end
theorem ou {xs:List V} {y:V}:(xs++[y])[(xs++[y]).length - 1]?=some y:=by simp
theorem d9.next {C R CC:Addr} {H H':Hp} {r:Addr} {M:List Addr} {c:Vbdeaa.Code} {s s':MS} {dx lr lw lc:Addr} {ts ws ws' cs:List Addr} (D:d9 C R CC H r M c s dx lr lw lc ts ws cs) (out:az (off M H) (off M H')) (obj:H' r=some (.ins R dx (Ff lr (s'.pos:Nat) lw lc)))
    (wl:H' lw=some (.lst (ws'.reverse.map V.ref))) (wn:Paired (aV C (off M H')) (waitOf s') ws') (cl:H' lc=some (.lst (cs.reverse.map V.ref))) (cn:gD C CC (off M H') H' s'.chs cs):d9 C R CC H' r M c s' dx lr lw lc ts ws' cs :=
  ⟨D.mem,D.nd,obj,out _ _ D.rows,D.told.same out,wl,wn,cl,cn⟩
theorem d9.rM {C R CC:Addr} {H:Hp} {r:Addr} {M:List Addr} {c:Vbdeaa.Code} {s:MS} {dx lr lw lc:Addr} {ts ws cs:List Addr} (D:d9 C R CC H r M c s dx lr lw lc ts ws cs):r∈M∧lw∈M∧lc∈M∧(∀ b∈cs,b∈M)∧r≠lw∧r≠lc∧lw≠lc∧(∀ b∈cs,b≠r∧b≠lw∧b≠lc):=by
  have nd:=D.nd
  rw [D.mem] at nd ⊢
  simp only [List.nodup_cons,List.mem_cons,not_or] at nd
  obtain ⟨⟨a1,a2,a3⟩,⟨b1,b2⟩,c1,_⟩:=nd
  refine ⟨by simp,by simp,by simp,fun b hb=>by simp [hb],a1,a2,b1,fun b hb=>⟨?_,?_,?_⟩⟩
  · intro z; subst z; exact a3 hb
  · intro z; subst z; exact b2 hb
  · intro z; subst z; exact c1 hb
theorem d9.Iv {C R CC:Addr} {H H':Hp} {r:Addr} {M:List Addr} {c:Vbdeaa.Code} {s s':MS} {dx lr lw lc:Addr} {ts ws ws' cs:List Addr} (D:d9 C R CC H r M c s dx lr lw lc ts ws cs) (ins:∀ b∈M,b≠lw→H' b=H b) (out:az (off M H) (off M H')) (hp:s'.pos=s.pos) (hc:s'.chs=s.chs)
    (wl:H' lw=some (.lst (ws'.reverse.map V.ref))) (wn:Paired (aV C (off M H')) (waitOf s') ws'):d9 C R CC H' r M c s' dx lr lw lc ts ws' cs:=by
  obtain ⟨m1,m2,m3,m4,n1,n2,n3,n4⟩:=D.rM
  exact D.next out (by rw [ins _ m1 n1,hp]; exact D.obj) wl wn (by rw [ins _ m3 (Ne.symm n3)]; exact D.cl) (by rw [hc]; exact D.cn.mono out fun b hb=>ins b (m4 b hb) (n4 b hb).2.1)
def jP (C R CC Cn:Addr):Sp:=fun vs H Q E=>∃ (r:Addr) (M:List Addr) (c:Vbdeaa.Code) (s:MS) (k:Nat),vs=[.ref r,.int k]∧Rec C R CC H r M c s∧k≤8 ∧
  (k≤s.cur.length→∀ l as H',H l=none→off M H' l=some (.lst (as.map V.ref))→Paired (aV C (off M H')) (s.cur.take k).reverse as→Rec C R CC H' r M c { s with cur:=s.cur.drop k }→az (off M H) (off M H')→Q (.ref l) H')∧(s.cur.length < k→bB Cn (-3) (off M H) E)
def jc (C R CC Cn:Addr):Sp:=fun vs H Q E=>∃ (r:Addr) (M:List Addr) (c:Vbdeaa.Code) (s:MS),vs=[.ref r]∧Rec C R CC H r M c s ∧
  (∀ e,s.cur=[e]→∀ a H',aV C (off M H') e a→Rec C R CC H' r M c { s with cur:=[] }→az (off M H) (off M H')→Q (.ref a) H')∧((∀ e,s.cur≠[e])→bB Cn (-3) (off M H) E)
section
variable {P:Program} {w:World} {K:PySem.W.Frag} {mg:Str→Option Value} {base:Heap}
theorem CQ:aN ["self","count","parts"] ["self","count"] (aD (b7 3)):=⟨rfl,rfl,rfl,by decide +kernel,rfl,by decide +kernel,by decide +kernel⟩
theorem JM {f fF C R CC Cn fI:Addr} {fd dF dI:FuncData} (F:jA K "take_parts" "Recovery.take_parts" (b7 3) f fd) (FF:Fm K R "free" "Recovery.free" (b7 2) fF dF ["self"]) (T:RT K mg C R CC) (X:XC P w K mg base "NoCode" Cn fI dI (-3)):aL P w K mg base (bh P w) 4 f fd ["self","count"] (jP C R CC Cn):=by
  have GF:aL P w K mg base (bh P w) 1 fF dF _ _:=Dn FF.F T
  refine fV F CQ (fun vs H Q E h=>?_) (fun cdv A outer s H vs Q E hr h=>?_)
  · obtain ⟨_,_,_,_,_,rfl,_⟩:=h
    rfl
  · obtain ⟨r,M,c,ms,k,rfl,hrec,hk8,kk,kr⟩:=h
    obtain ⟨dx,lr,lw,lc,ts,ws,cs,D⟩:=id hrec
    have hr1:bH 1 _:=hr.mono (by omega)
    refine ⟨_,aj (aY (aG qT (pv 1) (dU (pv 0) T.R.cl FF.me GF hr1 FF.b .nil passes) (aK _)) (ao (b_ X.made X.cls X.ok hr rfl X.m X.b rfl bU)) aH)
      (aj (aW (i:=2) CQ.nd rfl (Or.inl rfl) (bW aq))
      (aj (jU pQ (aG jw (bJ bc (by rfl) T.P.len (by decide +kernel) (aa (pv 2) aq)) (pv 1) (aK _))
        (ao (bf (iU PySem.F.plainAttrs_list PySem.F.slot_list_append PySem.F.type_list_append f9 (pv 2) (aa (pR PySem.F.plainAttrs_list PySem.F.slot_list_pop PySem.F.type_list_pop xK (aF (pv 0) rfl)) aq)))))
      (aj (bf (pR PySem.F.plainAttrs_list PySem.F.slot_list_reverse PySem.F.type_list_reverse Bp (pv 2)))
      (ao (aJ (pv 2)))))),?_⟩
    refine ⟨_,rfl,_,rfl,r,dx,_,rfl,D.obj,rfl,r,M,c,ms,rfl,hrec,_,_,rfl,rfl,_,rfl,?_⟩
    refine bO (fun h=>?_) fun h=>?_
    · have h:(ms.cur.length:Int) < k:=of_decide_eq_true h
      exact ((kr (by omega)).mono (aO M H)).go
    have hkl:k≤ms.cur.length:=by
      have:¬ ((ms.cur.length:Int) < k):=fun z=>h (decide_eq_true z)
      omega
    obtain ⟨m1,m2,m3,m4,n1,n2,n3,n4⟩:=D.rM
    have hwn:=D.wn
    have hwl:k≤ws.length:=by
      rw [← Paired.length hwn]
      unfold waitOf
      rw [List.length_append]
      omega
    refine ⟨by decide,fun L hL=>?_⟩
    have LM:L∉M:=fun z=>by
      obtain ⟨o,ho⟩:=D.there L z
      rw [hL] at ho
      cases ho
    have nLw:lw≠L:=fun z=>LM (z ▸ m2)
    refine ⟨fun m σ H'=>∃ j:Nat,σ=[some (.ref r),some (.int k),some (.ref L)]∧m=k - j∧j≤k∧(∀ b∈M,b≠lw→H' b=H b)∧az (off M H) (off M H')∧H' lw=some (.lst ((ws.drop j).reverse.map V.ref))∧H' L=some (.lst ((ws.take j).map V.ref)),
      ⟨k,0,rfl,rfl,Nat.zero_le _,fun b hb _=>au (fun z=>LM (z ▸ hb)),fun b o e=>?_,by rw [au nLw]; exact D.wl,ak⟩,?_⟩
    · have:=jj e
      exact cz (by rw [au (aB (aO _ _ _ _ e) hL)]; exact aO _ _ _ _ e) this
    rintro m σ H' ⟨j,rfl,rfl,hj,ins,out,hw,hl⟩
    have hobj:H' r=_:=(ins r m1 n1).trans D.obj
    refine ⟨_,rfl,L,_,rfl,.inl (bG.of hl),_,rfl,_,_,rfl,rfl,_,rfl,?_⟩
    rw [List.length_map,List.length_take,Nat.min_eq_left (by omega)]
    refine bO (fun h=>?_) fun h=>?_
    · have hjk:j < k:=by
        have h:(j:Int) < k:=of_decide_eq_true h
        omega
      obtain ⟨b,hb⟩:∃ b,ws[j]?=some b:=⟨_,List.getElem?_eq_getElem (by omega)⟩
      have hdrop:ws.drop j=b :: ws.drop (j+1):=by
        rw [List.drop_eq_getElem_cons (by omega)]
        congr 1
        rw [List.getElem?_eq_getElem (by omega)] at hb
        exact Option.some.inj hb
      rw [hdrop,bz] at hw
      refine ⟨fun σ' H''=>∃ m',m' < k - j∧∃ j:Nat,σ'=[some (.ref r),some (.int k),some (.ref L)]∧m'=k - j∧j≤k∧(∀ b∈M,b≠lw→H'' b=H b)∧az (off M H) (off M H'')∧H'' lw=some (.lst ((ws.drop j).reverse.map V.ref))∧H'' L=some (.lst ((ws.take j).map V.ref)),fun σ' H'' h=>h,?_⟩
      refine ⟨_,rfl,.inl ⟨rfl,_,bG.of hl⟩,_,rfl,r,R,dx,_,_,rfl,hobj,T.R.cl,T.R.nW,rfl,.inl ⟨rfl,_,bG.of hw⟩,lw,_,_,rfl,rfl,hw,ou,?_⟩
      rw [List.dropLast_concat]
      refine ⟨L,_,_,rfl,rfl,by rw [au (Ne.symm nLw)]; exact hl,?_,?_⟩
      · rw [List.length_map,List.length_take]
        exact Nat.lt_of_le_of_lt (by omega:_≤8) (by decide)
      refine ⟨k - (j+1),by omega,j+1,rfl,rfl,hjk,fun y hy hyw=>?_,?_,?_,?_⟩
      · rw [au (show y≠L from fun z=>LM (z ▸ hy)),au hyw]
        exact ins y hy hyw
      · intro y o q
        have q2:=out _ _ q
        have yM:=jj q2
        refine cz ?_ yM
        rw [au (aB (aO _ _ _ _ q) hL),au (show y≠lw from fun z=>yM (z ▸ m2))]
        exact aO _ _ _ _ q2
      · rw [au nLw]
        exact ak
      · rw [ak,List.take_succ,hb,List.map_append]
        rfl
    · have hjk:j=k:=by
        have:¬ ((j:Int) < k):=fun z=>h (decide_eq_true z)
        omega
      subst hjk
      refine ⟨_,rfl,.inl ⟨rfl,_,bG.of hl⟩,L,_,rfl,rfl,hl,_,rfl,?_⟩
      rw [← List.map_reverse]
      have oeq:∀ b,b≠L→off M (L2.upd H' L (.lst ((ws.take j).reverse.map V.ref))) b=off M H' b:=fun b hb=>by
        unfold off
        by_cases z:b∈M
        · rw [if_pos z,if_pos z]
        · rw [if_neg z,if_neg z,au hb]
      have out2:az (off M H) (off M (L2.upd H' L (.lst ((ws.take j).reverse.map V.ref)))):=fun b o q=>by
        rw [oeq b (aB (aO _ _ _ _ q) hL)]
        exact out _ _ q
      have hwn2:=cR out2 hwn
      have split:∀ {α β:Type} {F:α→β→Prop} (n:Nat) {l:List α} {m:List β},Paired F l m→Paired F (l.take n) (m.take n)∧Paired F (l.drop n) (m.drop n):=by
        intro α β F n
        induction n with
        | zero=>intro l m h; exact ⟨.nil,h⟩
        | succ n ih =>
          intro l m h
          cases h with
          | nil=>exact ⟨.nil,.nil⟩
          | cons a b=>exact ⟨.cons a (ih b).1,(ih b).2⟩
      have rev:∀ {α β:Type} {F:α→β→Prop} {l:List α} {m:List β},Paired F l m→Paired F l.reverse m.reverse:=by
        intro α β F l m h
        induction h with
        | nil=>exact .nil
        | cons a b ih=>rw [List.reverse_cons,List.reverse_cons]; exact cV ih a
      obtain ⟨g1,g2⟩:=split j hwn2
      have e1:(waitOf ms).take j=ms.cur.take j:=by unfold waitOf; rw [List.take_append_of_le_length hkl]
      have e2:(waitOf ms).drop j=waitOf { ms with cur:=ms.cur.drop j }:=by unfold waitOf; rw [List.drop_append_of_le_length hkl]
      rw [e1] at g1
      rw [e2] at g2
      refine kk hkl L _ _ hL (cz ak LM) (rev g1) ⟨dx,lr,lw,lc,ts,ws.drop j,cs,D.Iv (s':={ ms with cur:=ms.cur.drop j }) (fun y hy hyw=>?_) out2 rfl rfl ?_ g2⟩ out2
      · rw [au (show y≠L from fun z=>LM (z ▸ hy))]
        exact ins y hy hyw
      · rw [au nLw]
        exact hw
theorem Mf:aN ["self"] ["self"] (aD (b7 4)):=⟨rfl,rfl,rfl,by decide +kernel,rfl,by decide +kernel,by decide +kernel⟩
theorem JN {f fF C R CC Cn fI:Addr} {fd dF dI:FuncData} (F:jA K "take_only" "Recovery.take_only" (b7 4) f fd) (FF:Fm K R "free" "Recovery.free" (b7 2) fF dF ["self"]) (T:RT K mg C R CC) (X:XC P w K mg base "NoCode" Cn fI dI (-3)):aL P w K mg base (bh P w) 4 f fd ["self"] (jc C R CC Cn):=by
  have GF:aL P w K mg base (bh P w) 1 fF dF _ _:=Dn FF.F T
  refine fV F Mf (fun vs H Q E h=>?_) (fun cdv A outer s H vs Q E hr h=>?_)
  · obtain ⟨_,_,_,_,rfl,_⟩:=h
    rfl
  · obtain ⟨r,M,c,ms,rfl,hrec,kk,kr⟩:=h
    obtain ⟨dx,lr,lw,lc,ts,ws,cs,D⟩:=id hrec
    have hr1:bH 1 _:=hr.mono (by omega)
    refine ⟨_,aj (aY (aG ut (dU (pv 0) T.R.cl FF.me GF hr1 FF.b .nil passes) aA (aK _)) (ao (b_ X.made X.cls X.ok hr rfl X.m X.b rfl bU)) aH)
      (ao (aJ (pR PySem.F.plainAttrs_list PySem.F.slot_list_pop PySem.F.type_list_pop xK (aF (pv 0) rfl)))),?_⟩
    refine ⟨_,rfl,r,dx,_,rfl,D.obj,rfl,r,M,c,ms,rfl,hrec,rfl,_,rfl,?_⟩
    refine bO (fun h=>?_) fun h=>?_
    · refine ((kr fun e he=>?_).mono (aO M H)).go
      rw [he] at h
      cases h
    · have hlen:ms.cur.length=1:=by
        have:¬ ¬ V.int (ms.cur.length:Nat)=V.int 1:=fun z=>h (by simpa using z)
        have:=cZ (Classical.not_not.mp this)
        omega
      obtain ⟨e,he⟩:∃ e,ms.cur=[e]:=by
        match hc:ms.cur,hlen with
        | [e],_=>exact ⟨e,rfl⟩
      have hwn:=D.wn
      unfold waitOf at hwn
      rw [he] at hwn
      obtain ⟨m1,m2,m3,m4,n1,n2,n3,n4⟩:=D.rM
      cases hwn with
      | @cons _ b _ ws' hb hws =>
        have hwl:=D.wl
        rw [bz] at hwl
        refine ⟨_,rfl,r,R,dx,_,_,rfl,D.obj,T.R.cl,T.R.nW,rfl,.inl ⟨rfl,_,bG.of hwl⟩,lw,_,_,rfl,rfl,hwl,ou,?_⟩
        rw [List.dropLast_concat]
        have ho:off M (L2.upd H lw (.lst (ws'.reverse.map V.ref)))=off M H:=fu m2
        refine kk e he b _ (by rw [ho]; exact hb) ⟨dx,lr,lw,lc,ts,ws',cs,D.Iv (ws':=ws') (s':={ ms with cur:=[] }) (fun y _ hy=>au hy) (by rw [ho]; exact az.refl _) rfl rfl ak (by rw [ho]; exact hws)⟩ (by rw [ho]; exact az.refl _)
end
theorem zB:∀ l:List Exp,j6 (Vbdeam.exps l)=l
  | []=>rfl
  | e :: r=>by show e :: j6 (Vbdeam.exps r)=_; rw [zB r]
theorem yo (s:String):gZ (Vbdeaa.text s)=Str.ofString s:=by
  refine TL.Ku ?_
  unfold gZ
  rw [TL.Cq,u_,List.map_map]
  conv=>rhs; rw [← List.map_id (TL.tl (Str.ofString s))]
  exact List.map_congr_left fun c _=>by simp
theorem Ac (a b:Text):gZ (a++b)=gZ a++gZ b:=by
  refine TL.Ku ?_
  rw [TL.vL]
  unfold gZ
  rw [TL.Cq,TL.Cq,TL.Cq,List.map_append]
theorem sZ (s:String) (n:Nat):gZ (Vbdeam.made s n)=Str.ofString s++iG (n:Int):=by
  unfold Vbdeam.made Vbdeaa.decimal
  rw [Ac,yo,yo]
  rfl
structure NK (P:Program) (w:World) (K:PySem.W.Frag) (mg:Str→Option Value) (base:Heap) (C fN:Addr) (dN:FuncData):Prop where
  mk_:Mk K C fN
  ok:aL P w K mg base (bh P w) 1 fN dN ["self","form","detail","parts"] (pF C)
  b:Binds K dN ["self","form","detail","parts"] []
  m:mg "Node"=some (.ref C)
def vO (C:Addr):Sp:=fun vs H Q _=>∃ (M:List Addr) (f:Nat) (l:Addr) (es:List Exp) (as:List Addr),vs=[.int f,.ref l]∧(∀ b∈M,∃ o,H b=some o)∧f < 64∧es.length≤8∧off M H l=some (.lst (as.map V.ref))∧Paired (aV C (off M H)) es as ∧
  ∀ x H2,H x=none→gb M H H2→aV C (off M H2) (if es=[] then .name (Vbdeam.nameOf 11 f) else .use (Vbdeam.nameOf 11 f) (Vbdeam.exps es)) x→Q (.ref x) H2
def Ih (C:Addr):Sp:=fun vs H Q _=>∃ (M:List Addr) (g:Bool) (l:Addr) (x y:Exp) (as:List Addr),vs=[.int (if g=true then 1 else 0),.ref l]∧(∀ b∈M,∃ o,H b=some o)∧off M H l=some (.lst (as.map V.ref))∧Paired (aV C (off M H)) [x,y] as∧(kids y).length < 1900 ∧
  ∀ a H2,H a=none→gb M H H2→aV C (off M H2) (Vbdeam.joinBest g x y) a→Q (.ref a) H2
abbrev jQ:Stmt:=top 68
abbrev yD:Stmt:=top 69
theorem str1 {n:Nat} (h:n < 1000000000000000000):(iG (n:Int)).length+1≤sizeLine:=by
  have:=J_ (n:=n) (by omega)
  have:(1000:Nat)≤sizeLine:=by decide
  omega
section
variable {P:Program} {w:World} {K:PySem.W.Frag} {mg:Str→Option Value} {base:Heap}
theorem Ez:aN ["formula","parts"] ["formula","parts"] (aD jQ):=⟨rfl,rfl,rfl,by decide +kernel,rfl,by decide +kernel,by decide +kernel⟩
theorem Bl {f C R CC fN:Addr} {fd dN:FuncData} (F:Fn K mg "formula_node" jQ f fd ["formula","parts"]) (T:RT K mg C R CC) (NN:NK P w K mg base C fN dN):aL P w K mg base (bh P w) 3 f fd ["formula","parts"] (vO C):=by
  refine fV F.F Ez (fun vs H Q E h=>?_) (fun cdv A outer s H vs Q E hr h=>?_)
  · obtain ⟨_,_,_,_,_,rfl,_⟩:=h
    rfl
  · obtain ⟨M,f0,l,es,as,rfl,hM,hf,hes,hl,hp,k⟩:=h
    refine ⟨_,ao (aJ (dz NN.mk_ NN.ok hr rfl NN.m NN.b .nil passes (aa (jX (iT (pv 1) (fun _=>rfl)) (bD rfl T.S.CALL) (bD rfl T.P.NAME)) (aa (cJ gK fY (fc fU (by rfl) T.P.str (by decide +kernel) (aa (pv 0) aq))) (aa (pv 1) aq))))),?_⟩
    have hl0:=aO _ _ _ _ hl
    have hlen:=Paired.length hp
    refine ⟨_,rfl,_,.inl ⟨_,bG.of hl0,rfl⟩,?_⟩
    have g1:(f0:Int).natAbs.log2 < 1920:=Bu (by omega)
    have e1:(Str.ofString "g").length+(iG (f0:Int)).length≤sizeLine:=by
      have:=str1 (n:=f0) (by omega)
      have:(Str.ofString "g").length=1:=by decide +kernel
      omega
    have et:gZ (Vbdeam.nameOf 11 f0)=Str.ofString "g"++iG (f0:Int):=sZ "g" f0
    cases es with
    | nil =>
      cases hp
      refine aZ ⟨_,rfl,_,rfl,g1,_,_,rfl,rfl,e1,_,rfl,?_⟩
      rw [if_pos rfl] at k
      exact eO (e:=.name (Vbdeam.nameOf 11 f0)) hM (show _=_ by rw [et]; rfl) hl .nil (by decide) k
    | cons x r =>
      cases hp with
      | @cons _ a _ as' ha hr' =>
        refine cF ⟨_,rfl,_,rfl,g1,_,_,rfl,rfl,e1,_,rfl,?_⟩
        rw [if_neg (by simp)] at k
        refine eO (e:=.use (Vbdeam.nameOf 11 f0) (Vbdeam.exps (x :: r))) hM (show _=_ by rw [et]; rfl) hl (by show Paired _ (j6 (Vbdeam.exps (x :: r))) _; rw [zB]; exact .cons ha hr') (by rw [← hlen]; omega) k
theorem IK:aN ["detail","parts","last"] ["detail","parts"] (aD yD):=⟨rfl,rfl,rfl,by decide +kernel,rfl,by decide +kernel,by decide +kernel⟩
theorem M4 {f C R CC fN:Addr} {fd dN:FuncData} (F:Fn K mg "pick_node" yD f fd ["detail","parts"]) (T:RT K mg C R CC) (NN:NK P w K mg base C fN dN):aL P w K mg base (bh P w) 3 f fd ["detail","parts"] (Ih C):=by
  refine fV F.F IK (fun vs H Q E h=>?_) (fun cdv A outer s H vs Q E hr h=>?_)
  · obtain ⟨_,_,_,_,_,_,rfl,_⟩:=h
    rfl
  · obtain ⟨M,g,l,x,y,as,rfl,hM,hl,hp,hky,k⟩:=h
    refine ⟨_,aj (aW (i:=2) IK.nd rfl (Or.inl rfl) (bj cD (pv 1) aA (fun _ _=>rfl)))
      (aj (aY (PW.pt (xj (aG bI (aF (pv 2) rfl) (bD rfl T.P.PICK) (aK _)) (su (aG bI (aF (pv 2) rfl) (pv 0) (aK _)))))
        (ao (aJ (dz NN.mk_ NN.ok hr rfl NN.m NN.b .nil passes (aa (bD rfl T.P.PICK) (aa (pv 0) (aa (cJ Bk (bW (aa (bj cD (pv 1) aA (fun _ _=>rfl)) aq)) (aF (pv 2) rfl)) aq)))))) aH)
      (ao (aJ (dz NN.mk_ NN.ok hr rfl NN.m NN.b .nil passes (aa (bD rfl T.P.PICK) (aa (pv 0) (aa (pv 1) aq))))))),?_⟩
    obtain ⟨a,b,rfl,ha,hb⟩:∃ a b,as=[a,b]∧aV C (off M H) x a∧aV C (off M H) y b:=by
      cases hp with
      | cons a0 b0=>cases b0 with
        | cons a1 b1=>cases b1; exact ⟨_,_,rfl,a0,a1⟩
    have hl0:=aO _ _ _ _ hl
    obtain ⟨dx,D,lb,bs,h1,hD,hlb,hpb⟩:=fD hb
    have h1':=aO _ _ _ _ h1
    have N:=T.N
    have gi:∀ g h:Bool,(V.int (if h=true then 1 else 0)=V.int (if g=true then 1 else 0))↔h=g:=by decide
    have two:Vbdeam.joinBest g x y=.best g (.cons x (.cons y .nil))→∀ x' dx',H x'=none→H dx'=none→dx'≠x'→pF C [.ref x',.int 7,.int (if g=true then 1 else 0),.ref l] (L2.upd (L2.upd H dx' (.own x')) x' (.ins C dx' [])) (fun v H2=>v=.non∧Q (.ref x') H2) E:=fun hj=>by
      rw [hj] at k
      exact eO (e:=.best g (.cons x (.cons y .nil))) hM rfl hl (.cons ha (.cons hb .nil)) (by show 2 < 2000; decide) k
    refine ⟨_,rfl,l,_,_,_,rfl,rfl,bG.of hl0,at_of (j:=1) rfl rfl,?_⟩
    refine ⟨_,rfl,b,C,dx,_,_,rfl,h1',N.cl,N.nF,rfl,rfl,_,rfl,?_⟩
    refine bO (fun hc=>?_) fun hc=>?_
    · have hf:fH y=7:=cZ (of_decide_eq_true hc)
      cases y with
      | best h lst =>
        obtain rfl:D=.int (if h=true then 1 else 0):=hD
        refine ⟨_,rfl,b,C,dx,_,_,rfl,h1',N.cl,N.nD,rfl,_,rfl,rfl,_,rfl,?_⟩
        refine bO (fun hc2=>?_) fun hc2=>?_
        · have hg:h=g:=(gi g h).mp (of_decide_eq_true hc2)
          subst hg
          have hj:Vbdeam.joinBest h x (.best h lst)=.best h (.cons x lst):=by unfold Vbdeam.joinBest; simp
          rw [hj] at k
          refine ⟨_,rfl,_,rfl,l,_,_,_,rfl,rfl,bG.of hl0,at_of (j:=0) rfl rfl,by show 1≤sizeLine; decide,fun l1 hl1=>?_⟩
          have s1:=az.upd (o:=.lst [V.ref a]) hl1
          have k1:=gb.of_same hM s1
          have hlb1:=s1 _ _ (aO _ _ _ _ hlb)
          refine ⟨_,rfl,b,C,dx,_,_,rfl,s1 _ _ h1',N.cl,N.nP,rfl,l1,lb,_,_,rfl,rfl,ak,hlb1,?_,fun l2 hl2=>?_⟩
          · have:=Paired.length hpb
            rw [List.length_map,← this]
            show 1+_≤sizeLine
            have:(2000:Nat)≤sizeLine:=by decide
            omega
          have s2:=s1.trans (az.upd (o:=.lst ([V.ref a]++bs.map V.ref)) hl2)
          have k2:=gb.of_same hM s2
          have hM2:∀ b∈M,∃ o,(L2.upd (L2.upd H l1 (.lst [V.ref a])) l2 (.lst ([V.ref a]++bs.map V.ref))) b=some o:=fun b hb=>by
            obtain ⟨o,ho⟩:=hM b hb
            exact ⟨o,s2 _ _ ho⟩
          have l2M:l2∉M:=fun z=>by
            obtain ⟨o,ho⟩:=hM l2 z
            rw [s1 _ _ ho] at hl2
            cases hl2
          refine eO (e:=.best h (.cons x lst)) (as:=a :: bs) hM2 rfl (cz ak l2M) (.cons (ha.same k2.out) (cR k2.out hpb)) ?_ fun z H3 hz kz nz=>k z H3 (s2.free hz) (k2.trans kz) nz
          have:=Paired.length hpb
          rw [List.length_cons,← this]
          omega
        · have hne:h≠g:=fun z=>hc2 (decide_eq_true ((gi g h).mpr z))
          have hj:Vbdeam.joinBest g x (.best h lst)=.best g (.cons x (.cons (.best h lst) .nil)):=by unfold Vbdeam.joinBest; simp [hne]
          exact ⟨_,rfl,_,rfl,two hj⟩
      | _=>cases hf
    · have hj:Vbdeam.joinBest g x y=.best g (.cons x (.cons y .nil)):=by
        cases y with
        | best h lst=>exact absurd (by rfl) hc
        | _=>rfl
      exact ⟨_,rfl,_,rfl,two hj⟩
end
theorem RM (o:Un):(Vbdeaa.UNS.findIdx fun x=>x==o)=HJ o:=by cases o <;> decide +kernel
theorem Rj (o:Bin):(Vbdeaa.BINS.findIdx fun x=>x==o)=zR o:=by cases o <;> decide +kernel
def isPlain:Ins→Prop
  | .zero _=>False
  | .jump _=>False
  | .truth=>False
  | _=>True
theorem Ia {l:List Exp} {e:Exp} (h:e∈l):Vbdeam.size e≤MX.cO l:=by
  induction l with
  | nil=>cases h
  | cons x r ih =>
    simp only [MX.cO]
    rcases List.mem_cons.mp h with h | h
    · subst h; omega
    · have:=ih h; omega
theorem uO:∀ (l:Exps),(j6 l).length≤Vbdeam.sizeAll l
  | .nil=>Nat.le_refl _
  | .cons e l=>by
    have:=uO l
    have:=MX.nj e
    simp only [j6,List.length_cons,Vbdeam.sizeAll]
    omega
theorem Gq (e:Exp):(kids e).length < Vbdeam.size e+3:=by
  cases e with
  | best g l=>have:=uO l; simp only [kids,Vbdeam.size]; omega
  | use n l=>have:=uO l; simp only [kids,Vbdeam.size]; omega
  | _=>simp [kids,Vbdeam.size] <;> omega
structure RF (P:Program) (w:World) (K:PySem.W.Frag) (mg:Str→Option Value) (base:Heap) (C R CC Cn fI:Addr) (dI:FuncData) (fN fT fO fFo fPi fNa:Addr) (dN dT dO dFo dPi dNa:FuncData):Prop where
  T:RT K mg C R CC
  X:XC P w K mg base "NoCode" Cn fI dI (-3)
  N:NK P w K mg base C fN dN
  tp:aL P w K mg base (bh P w) 4 fT dT ["self","count"] (jP C R CC Cn)
  tpm:Meth K R "take_parts" fT
  tpb:Binds K dT ["self","count"] []
  to:aL P w K mg base (bh P w) 4 fO dO ["self"] (jc C R CC Cn)
  tom:Meth K R "take_only" fO
  tob:Binds K dO ["self"] []
  fo:aL P w K mg base (bh P w) 3 fFo dFo ["formula","parts"] (vO C)
  fof:Fn K mg "formula_node" jQ fFo dFo ["formula","parts"]
  pi_:aL P w K mg base (bh P w) 3 fPi dPi ["detail","parts"] (Ih C)
  pif:Fn K mg "pick_node" yD fPi dPi ["detail","parts"]
  na:aL P w K mg base (bh P w) 1 fNa dNa ["number"] Am
  naf:Fn K mg "name_of_read" vR fNa dNa ["number"]
def tM (C R CC Cn:Addr):Sp:=fun vs H Q E=>∃ (r t:Addr) (M:List Addr) (c:Vbdeaa.Code) (s:MS) (n:Nat) (i:Ins),vs=[.ref r,.ref t]∧Rec C R CC H r M c s∧off M H t=some (.tup (vI i.told))∧gM n i=true∧n≤8∧isPlain i∧MX.cO s.cur≤1000 ∧
  (∀ e rest,Vbdeam.plain n i s.cur=some (e :: rest)→∀ a H',aV C (off M H') e a→Rec C R CC H' r M c { s with cur:=rest }→az (off M H) (off M H')→Q (.ref a) H')∧(Vbdeam.plain n i s.cur=none→bB Cn (-3) (off M H) E)
section
variable {P:Program} {w:World} {K:PySem.W.Frag} {mg:Str→Option Value} {base:Heap}
theorem yz:aN ["self","row","first"] ["self","row"] (aD (b7 6)):=⟨rfl,rfl,rfl,by decide +kernel,rfl,by decide +kernel,by decide +kernel⟩
theorem Fy {f C R CC Cn fI:Addr} {fd dI:FuncData} {fN fT fO fFo fPi fNa:Addr} {dN dT dO dFo dPi dNa:FuncData} (F:jA K "plain_node" "Recovery.plain_node" (b7 6) f fd) (G:RF P w K mg base C R CC Cn fI dI fN fT fO fFo fPi fNa dN dT dO dFo dPi dNa):aL P w K mg base (bh P w) 5 f fd ["self","row"] (tM C R CC Cn):=by
  refine fV F yz (fun vs H Q E h=>?_) (fun cdv A outer s H vs Q E hr h=>?_)
  · obtain ⟨_,_,_,_,_,_,_,rfl,_⟩:=h
    rfl
  · obtain ⟨r,t,M,c,ms,n,i,rfl,hrec,ht,hok,hn8,hpl,hsz,k,kr⟩:=h
    obtain ⟨dx,lr,lw,lc,ts,ws,cs,D⟩:=id hrec
    have hr1:bH 1 _:=hr.mono (by omega)
    have hr2:bH 2 _:=hr.mono (by omega)
    have hr3:bH 3 _:=hr.mono (by omega)
    have T:=G.T
    have NN:=G.N
    refine ⟨_,aj (aW (i:=2) yz.nd rfl (Or.inl rfl) (bj bL (pv 1) aA (fun _ _=>rfl)))
      (aj (aY (aG bI (pv 2) aA (aK _)) (ao (aJ (dz NN.mk_ NN.ok hr2 rfl NN.m NN.b .nil passes (aa (bD rfl T.P.NUMBER) (aa (eF (aa (bj bL (pv 1) aA (fun _ _=>rfl)) (aa (bj bL (pv 1) aA (fun _ _=>rfl)) aq))) (aa (bW aq) aq)))))) aH)
      (aj (aY (aG bI (pv 2) aA (aK _)) (ao (aJ (dz NN.mk_ NN.ok hr2 rfl NN.m NN.b .nil passes (aa (bD rfl T.P.NAME) (aa (cJ gK fY (fc fU (by rfl) T.P.str (by decide +kernel) (aa (bj bL (pv 1) aA (fun _ _=>rfl)) aq))) (aa (bW aq) aq)))))) aH)
      (aj (aY (aG bI (pv 2) aA (aK _)) (ao (aJ (dz NN.mk_ NN.ok hr2 rfl NN.m NN.b .nil passes (aa (bD rfl T.P.NAME) (aa (aQ G.na hr1 rfl G.naf.m G.naf.F.kp G.naf.b .nil passes (aa (bj bL (pv 1) aA (fun _ _=>rfl)) aq)) (aa (bW aq) aq)))))) aH)
      (aj (aY (aG bI (pv 2) aA (aK _)) (ao (aJ (dz NN.mk_ NN.ok hr2 rfl NN.m NN.b .nil passes (aa (bD rfl T.Q.ONE) (aa (bj bL (pv 1) aA (fun _ _=>rfl)) (aa (gk (pv 0) T.R.cl G.tpm G.tp hr G.tpb .nil passes (aa aA aq)) aq)))))) aH)
      (aj (aY (aG bI (pv 2) aA (aK _)) (ao (aJ (dz NN.mk_ NN.ok hr2 rfl NN.m NN.b .nil passes (aa (bD rfl T.Q.TWO) (aa (bj bL (pv 1) aA (fun _ _=>rfl)) (aa (gk (pv 0) T.R.cl G.tpm G.tp hr G.tpb .nil passes (aa aA aq)) aq)))))) aH)
      (aj (aY (aG bI (pv 2) aA (aK _)) (ao (aJ (dz NN.mk_ NN.ok hr2 rfl NN.m NN.b .nil passes (aa (bD rfl T.S.CALL) (aa (cJ gK fY (fc fU (by rfl) T.P.str (by decide +kernel) (aa (bj bL (pv 1) aA (fun _ _=>rfl)) aq))) (aa (gk (pv 0) T.R.cl G.tpm G.tp hr G.tpb .nil passes (aa aA aq)) aq)))))) aH)
      (aj (aY (aG bI (pv 2) aA (aK _)) (ao (aJ (aQ G.fo hr3 rfl G.fof.m G.fof.F.kp G.fof.b .nil passes (aa (bj bL (pv 1) aA (fun _ _=>rfl)) (aa (gk (pv 0) T.R.cl G.tpm G.tp hr G.tpb .nil passes (aa (bj bL (pv 1) aA (fun _ _=>rfl)) aq)) aq))))) aH)
      (ao (aJ (aQ G.pi_ hr3 rfl G.pif.m G.pif.F.kp G.pif.b .nil passes (aa (bj bL (pv 1) aA (fun _ _=>rfl)) (aa (gk (pv 0) T.R.cl G.tpm G.tp hr G.tpb .nil passes (aa aA aq)) aq)))))))))))),?_⟩
    have ht0:=aO _ _ _ _ ht
    have hM:=D.there
    have keepR:∀ {H1 H2:Hp} {s1:MS},Rec C R CC H1 r M c s1→gb M H1 H2→Rec C R CC H2 r M c s1:=fun ⟨a1,a2,a3,a4,a5,a6,a7,d⟩ kp=>⟨a1,a2,a3,a4,a5,a6,a7,d.keep kp⟩
    have thereR:∀ {H1:Hp} {s1:MS},Rec C R CC H1 r M c s1→∀ b∈M,∃ o,H1 b=some o:=fun ⟨a1,a2,a3,a4,a5,a6,a7,d⟩=>d.there
    have fin:∀ {e:Exp} {rest:List Exp} {H1:Hp},Vbdeam.plain n i ms.cur=some (e :: rest)→Rec C R CC H1 r M c { ms with cur:=rest }→az (off M H) (off M H1)→∀ x H2,H1 x=none→gb M H1 H2→aV C (off M H2) e x→Q (.ref x) H2:=fun hp rc sm x H2 _ kp nd=>k _ _ hp x H2 nd (keepR rc kp) (sm.trans kp.out)
    have leaf:∀ {e:Exp} {D:V} {H1:Hp},kids e=[]→Vbdeam.plain n i ms.cur=some (e :: ms.cur)→az H H1→jC (off M H1) e D→∀ L,H1 L=none→∀ x dx,(L2.upd H1 L (.lst [])) x=none→(L2.upd H1 L (.lst [])) dx=none→dx≠x →
        pF C [.ref x,.int (fH e),D,.ref L] (L2.upd (L2.upd (L2.upd H1 L (.lst [])) dx (.own x)) x (.ins C dx [])) (fun v H2=>v=.non∧Q (.ref x) H2) E:=fun {e D H1} hk hp s1 hD L hL=>by
      have s2:=s1.trans (az.upd (o:=.lst []) hL)
      have k2:=gb.of_same hM s2
      have LM:L∉M:=fun z=>by
        obtain ⟨o,ho⟩:=hM L z
        rw [s1 _ _ ho] at hL
        cases hL
      have s3:=gb.of_same (M:=M) (fun b hb=>by obtain ⟨o,ho⟩:=hM b hb; exact ⟨o,s1 _ _ ho⟩) (az.upd (o:=.lst []) hL)
      exact eO (as:=[]) (thereR (keepR hrec k2)) (gP (fun b xs q=>s3.out b _ q) hD) (cz ak LM) (by rw [hk]; exact .nil) (by decide) (fin hp (keepR hrec k2) k2.out)
    refine ⟨_,rfl,t,_,_,_,rfl,rfl,dY.of ht0,at_of (j:=0) (v:=(vI i.told)[0]?.getD .non) rfl (by cases i <;> rfl),?_⟩
    cases i with
    | zero _=>exact False.elim hpl
    | jump _=>exact False.elim hpl
    | truth=>exact False.elim hpl
    | push q =>
      have hq:Vbdeam.plain n (.push q) ms.cur=some (.num q :: ms.cur):=by
        have h:(Vbdeaa.proper q && decide (0≤q.1))=true:=hok
        simp only [Bool.and_eq_true,decide_eq_true_eq] at h
        unfold Vbdeam.plain
        simp only
        rw [if_pos h]
      refine ⟨_,rfl,rfl,_,rfl,cF ⟨_,rfl,t,_,_,_,rfl,rfl,dY.of ht0,at_of (j:=1) rfl rfl,_,rfl,t,_,_,_,rfl,rfl,dY.of ht0,at_of (j:=2) rfl rfl,by show 2≤sizeLine; decide,fun Tt hT=>⟨by decide,fun L hL=>?_⟩⟩⟩
      have TM:Tt∉M:=fun z=>by
        obtain ⟨o,ho⟩:=hM Tt z
        rw [hT] at ho
        cases ho
      exact leaf (e:=.num q) rfl hq (az.upd hT) ⟨Tt,rfl,cz ak TM⟩ L hL
    | arg j =>
      have hj:j < n:=of_decide_eq_true hok
      have hq:Vbdeam.plain n (.arg j) ms.cur=some (.name (Vbdeam.argName j) :: ms.cur):=by
        unfold Vbdeam.plain
        simp only
        rw [if_pos hj]
      refine ⟨_,rfl,rfl,_,rfl,aZ ⟨_,rfl,rfl,_,rfl,cF ⟨_,rfl,t,_,_,_,rfl,rfl,dY.of ht0,at_of (j:=1) rfl rfl,_,rfl,Bu (by omega),_,_,rfl,rfl,?_,by decide,fun L hL=>?_⟩⟩⟩
      · have:=str1 (n:=j) (by omega)
        have:(Str.ofString "a").length=1:=by decide +kernel
        show (Str.ofString "a").length+(iG (j:Int)).length≤sizeLine
        omega
      · exact leaf (e:=.name (Vbdeam.argName j)) rfl hq (az.refl H) (show _=_ by rw [show Vbdeam.argName j=Vbdeam.made "a" j from rfl,sZ]; rfl) L hL
    | var j =>
      have hj:(Vbdeam.readName j).isSome=true:=hok
      obtain ⟨nm,hnm⟩:=Option.isSome_iff_exists.mp hj
      have hq:Vbdeam.plain n (.var j) ms.cur=some (.name nm :: ms.cur):=by
        unfold Vbdeam.plain
        simp only
        rw [hnm]
        rfl
      refine ⟨_,rfl,rfl,_,rfl,aZ ⟨_,rfl,rfl,_,rfl,aZ ⟨_,rfl,rfl,_,rfl,cF ⟨_,rfl,t,_,_,_,rfl,rfl,dY.of ht0,at_of (j:=1) rfl rfl,_,rfl,fun H1 s1=>⟨by decide,fun L hL=>?_⟩⟩⟩⟩⟩
      exact leaf (e:=.name nm) rfl hq s1 (show _=_ by rw [(vY hnm).1]) L hL
    | un o =>
      refine ⟨_,rfl,rfl,_,rfl,aZ ⟨_,rfl,rfl,_,rfl,aZ ⟨_,rfl,rfl,_,rfl,aZ ⟨_,rfl,rfl,_,rfl,cF ⟨_,rfl,t,_,_,_,rfl,rfl,dY.of ht0,at_of (j:=1) rfl rfl,_,rfl,r,dx,_,rfl,D.obj,rfl,r,M,c,ms,1,rfl,hrec,by decide,fun hl=>?_,fun hl=>kr ?_⟩⟩⟩⟩⟩
      · cases hcur:ms.cur with
        | nil=>rw [hcur] at hl; exact absurd hl (by decide)
        | cons x st =>
          intro l as H' hl0 hl1 hp hrc sm
          rw [RM]
          have hp':Paired (aV C (off M H')) [x] as:=hp
          exact eO (e:=.un o x) (thereR hrc) rfl hl1 hp' (by rw [← Paired.length hp']; show 1 < 2000; decide) (fin (by rw [hcur]; rfl) hrc sm)
      · cases hcur:ms.cur with
        | nil=>rfl
        | cons x st=>rw [hcur] at hl; simp at hl
    | bin o =>
      refine ⟨_,rfl,rfl,_,rfl,aZ ⟨_,rfl,rfl,_,rfl,aZ ⟨_,rfl,rfl,_,rfl,aZ ⟨_,rfl,rfl,_,rfl,aZ ⟨_,rfl,rfl,_,rfl,cF ⟨_,rfl,t,_,_,_,rfl,rfl,dY.of ht0,at_of (j:=1) rfl rfl,_,rfl,r,dx,_,rfl,D.obj,rfl,r,M,c,ms,2,rfl,hrec,by decide,fun hl=>?_,fun hl=>kr ?_⟩⟩⟩⟩⟩⟩
      · match hcur:ms.cur with
        | []=>rw [hcur] at hl; exact absurd hl (by decide)
        | [x]=>rw [hcur] at hl; exact absurd hl (by show ¬ 2≤1; decide)
        | y :: x :: st =>
          intro l as H' hl0 hl1 hp hrc sm
          rw [Rj]
          have hp':Paired (aV C (off M H')) [x,y] as:=hp
          exact eO (e:=.bin o x y) (thereR hrc) rfl hl1 hp' (by rw [← Paired.length hp']; show 2 < 2000; decide) (fin (by rw [hcur]; rfl) hrc sm)
      · match hcur:ms.cur with
        | []=>rfl
        | [x]=>rfl
        | y :: x :: st=>rw [hcur] at hl; simp at hl; omega
    | table j =>
      have hj:j < 64:=of_decide_eq_true hok
      refine ⟨_,rfl,rfl,_,rfl,aZ ⟨_,rfl,rfl,_,rfl,aZ ⟨_,rfl,rfl,_,rfl,aZ ⟨_,rfl,rfl,_,rfl,aZ ⟨_,rfl,rfl,_,rfl,aZ ⟨_,rfl,rfl,_,rfl,cF ⟨_,rfl,t,_,_,_,rfl,rfl,dY.of ht0,at_of (j:=1) rfl rfl,_,rfl,Bu (by omega),_,_,rfl,rfl,?_,_,rfl,r,dx,_,rfl,D.obj,rfl,r,M,c,ms,1,rfl,hrec,by decide,fun hl=>?_,fun hl=>kr ?_⟩⟩⟩⟩⟩⟩⟩
      · have:=str1 (n:=j) (by omega)
        have:(Str.ofString "t").length=1:=by decide +kernel
        show (Str.ofString "t").length+(iG (j:Int)).length≤sizeLine
        omega
      · cases hcur:ms.cur with
        | nil=>rw [hcur] at hl; exact absurd hl (by decide)
        | cons x st =>
          intro l as H' hl0 hl1 hp hrc sm
          have hp':Paired (aV C (off M H')) [x] as:=hp
          exact eO (e:=.use (Vbdeam.nameOf 10 j) (.cons x .nil)) (thereR hrc) (show _=_ by rw [show Vbdeam.nameOf 10 j=Vbdeam.made "t" j from rfl,sZ]; rfl) hl1 hp' (by rw [← Paired.length hp']; show 1 < 2000; decide) (fin (by rw [hcur]; unfold Vbdeam.plain; simp only; rw [if_pos hj]; rfl) hrc sm)
      · cases hcur:ms.cur with
        | nil=>rfl
        | cons x st=>rw [hcur] at hl; simp at hl
    | call j m =>
      have hjm:j < 64∧m≤8:=by
        have h:(decide (j < 64) && decide (m≤8))=true:=hok
        simpa using h
      refine ⟨_,rfl,rfl,_,rfl,aZ ⟨_,rfl,rfl,_,rfl,aZ ⟨_,rfl,rfl,_,rfl,aZ ⟨_,rfl,rfl,_,rfl,aZ ⟨_,rfl,rfl,_,rfl,aZ ⟨_,rfl,rfl,_,rfl,aZ ⟨_,rfl,rfl,_,rfl,cF ⟨_,rfl,t,_,_,_,rfl,rfl,dY.of ht0,at_of (j:=1) rfl rfl,_,rfl,r,dx,_,rfl,D.obj,rfl,_,rfl,t,_,_,_,rfl,rfl,dY.of ht0,at_of (j:=2) rfl rfl,r,M,c,ms,m,rfl,hrec,hjm.2,fun hl=>?_,fun hl=>kr ?_⟩⟩⟩⟩⟩⟩⟩⟩
      · intro l as H' hl0 hl1 hp hrc sm
        refine ⟨M,j,l,_,as,rfl,thereR hrc,hjm.1,?_,hl1,hp,fin ?_ hrc sm⟩
        · rw [List.length_reverse,List.length_take]
          omega
        · unfold Vbdeam.plain
          simp only
          rw [if_neg (by omega)]
          by_cases hm:m=0
          · subst hm
            simp
          · rw [if_neg hm,if_neg]
            intro z
            have:=congrArg List.length z
            rw [List.length_reverse,List.length_take,List.length_nil] at this
            omega
      · unfold Vbdeam.plain
        simp only
        rw [if_pos (by omega)]
    | best g =>
      refine ⟨_,rfl,rfl,_,rfl,aZ ⟨_,rfl,rfl,_,rfl,aZ ⟨_,rfl,rfl,_,rfl,aZ ⟨_,rfl,rfl,_,rfl,aZ ⟨_,rfl,rfl,_,rfl,aZ ⟨_,rfl,rfl,_,rfl,aZ ⟨_,rfl,rfl,_,rfl,aZ ⟨_,rfl,t,_,_,_,rfl,rfl,dY.of ht0,at_of (j:=1) rfl rfl,_,rfl,r,dx,_,rfl,D.obj,rfl,r,M,c,ms,2,rfl,hrec,by decide,fun hl=>?_,fun hl=>kr ?_⟩⟩⟩⟩⟩⟩⟩⟩
      · match hcur:ms.cur with
        | []=>rw [hcur] at hl; exact absurd hl (by decide)
        | [x]=>rw [hcur] at hl; exact absurd hl (by show ¬ 2≤1; decide)
        | y :: x :: st =>
          intro l as H' hl0 hl1 hp hrc sm
          refine ⟨M,g,l,x,y,as,rfl,thereR hrc,hl1,hp,?_,fin (by rw [hcur]; rfl) hrc sm⟩
          have h1:=Gq y
          have h2:=Ia (l:=ms.cur) (e:=y) (by rw [hcur]; exact List.mem_cons_self)
          omega
      · match hcur:ms.cur with
        | []=>rfl
        | [x]=>rfl
        | y :: x :: st=>rw [hcur] at hl; simp at hl; omega
end
def Small (s:MS):Prop:=MX.cO s.cur+MX.j_ s.chs+s.chs.length≤1000
theorem Small.wait {s:MS} (h:Small s):(waitOf s).length≤1000:=by
  unfold Small at h
  unfold waitOf
  rw [List.length_append]
  have h1:=MX.iw s.cur
  have h2:=MX.iw (bC s.chs)
  have h3:=MX.mL s.chs
  omega
def tK (C R CC Cn:Addr):Sp:=fun vs H Q E=>∃ (r t:Addr) (M:List Addr) (c:Vbdeaa.Code) (s:MS) (n:Nat) (i:Ins),vs=[.ref r,.ref t]∧Rec C R CC H r M c s∧off M H t=some (.tup (vI i.told))∧gM n i=true∧n≤8∧isPlain i∧Small s ∧
  (∀ st,Vbdeam.plain n i s.cur=some st→∀ H',Rec C R CC H' r M c ⟨s.pos+1,st,s.chs⟩→az (off M H) (off M H')→Q .non H')∧(Vbdeam.plain n i s.cur=none→bB Cn (-3) (off M H) E)
def Cy (C R CC Cn:Addr):Sp:=fun vs H Q E=>∃ (r:Addr) (M:List Addr) (c:Vbdeaa.Code) (s:MS) (k:Nat),vs=[.ref r,.int k]∧Rec C R CC H r M c s∧MX.WF c s∧Small s ∧
  (∀ t,MX.begin_ c k s=some t→∀ M' H',Rec C R CC H' r M' c t→az (off M H) (off M' H')→Q .non H')∧(MX.begin_ c k s=none→bB Cn (-3) (off M H) E)
def Io (C R CC Cn:Addr):Sp:=fun vs H Q E=>∃ (r:Addr) (M:List Addr) (c:Vbdeaa.Code) (s:MS),vs=[.ref r]∧Rec C R CC H r M c s∧MX.WF c s ∧
  (∀ t,MX.jump s=some t→∀ H',Rec C R CC H' r M c t→az (off M H) (off M H')→Q .non H')∧(MX.jump s=none→bB Cn (-3) (off M H) E)
theorem Mu (cd:Addr) (s m e b:Int) (fp v:V):gq "first_part" v (uR cd s m e b fp)=uR cd s m e b v:=by rfl
theorem d9.LR {C R CC:Addr} {H:Hp} {r:Addr} {M:List Addr} {c:Vbdeaa.Code} {s:MS} {dx lr lw lc:Addr} {ts ws cs:List Addr} (D:d9 C R CC H r M c s dx lr lw lc ts ws cs) (p:Nat):d9 C R CC (L2.upd H r (.ins R dx (Ff lr (p:Int) lw lc))) r M c ⟨p,s.cur,s.chs⟩ dx lr lw lc ts ws cs:=by
  obtain ⟨m1,m2,m3,m4,n1,n2,n3,n4⟩:=D.rM
  have ho:off M (L2.upd H r (.ins R dx (Ff lr (p:Int) lw lc)))=off M H:=fu m1
  exact D.next (s':=⟨p,s.cur,s.chs⟩) (by rw [ho]; exact az.refl _) ak (by rw [au (Ne.symm n1)]; exact D.wl) (by rw [ho]; exact D.wn) (by rw [au (Ne.symm n2)]; exact D.cl) (by rw [ho]; exact D.cn.mono (az.refl _) fun b hb=>au (n4 b hb).1)
section
variable {P:Program} {w:World} {K:PySem.W.Frag} {mg:Str→Option Value} {base:Heap}
theorem yw:aN ["self","row","node"] ["self","row"] (aD (b7 5)):=⟨rfl,rfl,rfl,by decide +kernel,rfl,by decide +kernel,by decide +kernel⟩
theorem Fw {f fP C R CC Cn:Addr} {fd dP:FuncData} (F:jA K "take_plain" "Recovery.take_plain" (b7 5) f fd) (T:RT K mg C R CC) (FP:Fm K R "plain_node" "Recovery.plain_node" (b7 6) fP dP ["self","row"]) (GP:aL P w K mg base (bh P w) 5 fP dP ["self","row"] (tM C R CC Cn)):aL P w K mg base (bh P w) 6 f fd ["self","row"] (tK C R CC Cn):=by
  refine fV F yw (fun vs H Q E h=>?_) (fun cdv A outer s H vs Q E hr h=>?_)
  · obtain ⟨_,_,_,_,_,_,_,rfl,_⟩:=h
    rfl
  · obtain ⟨r,t,M,c,ms,n,i,rfl,hrec,ht,hok,hn8,hpl,hsm,k,kr⟩:=h
    obtain ⟨dx,lr,lw,lc,ts,ws,cs,D⟩:=id hrec
    refine ⟨_,aj (aW (i:=2) yw.nd rfl (Or.inl rfl) (gk (pv 0) T.R.cl FP.me GP hr FP.b .nil passes (aa (pv 1) aq)))
      (aj (bf (iU PySem.F.plainAttrs_list PySem.F.slot_list_append PySem.F.type_list_append f9 (aF (pv 0) rfl) (aa (pv 2) aq)))
      (ao (pP (pv 0) aA BK))),?_⟩
    refine ⟨_,rfl,r,dx,_,rfl,D.obj,rfl,_,rfl,r,t,M,c,ms,n,i,rfl,hrec,ht,hok,hn8,hpl,by unfold Small at hsm; omega,?_,kr⟩
    rintro e rest hp a H1 hna ⟨dx1,lr1,lw1,lc1,ts1,ws1,cs1,D1⟩ sm
    obtain ⟨m1,m2,m3,m4,n1,n2,n3,n4⟩:=D1.rM
    refine ⟨_,rfl,r,R,dx1,_,_,rfl,D1.obj,T.R.cl,T.R.nW,rfl,.inl ⟨rfl,_,bG.of D1.wl⟩,_,rfl,lw1,_,_,rfl,rfl,D1.wl,?_,?_⟩
    · rw [List.length_map,List.length_reverse,← Paired.length D1.wn]
      have h1:=MX.uh hp
      have h2:=MX.iw rest
      have h3:=MX.iw (bC ms.chs)
      have h4:=MX.mL ms.chs
      simp only [MX.cO] at h1
      unfold Small at hsm
      unfold waitOf
      rw [List.length_append]
      refine Nat.lt_of_le_of_lt (?_:_≤3000) (by decide)
      show rest.length+(bC ms.chs).length≤3000
      omega
    have ho:off M (L2.upd H1 lw1 (.lst (ws1.reverse.map V.ref++[V.ref a])))=off M H1:=fu m2
    have D2:d9 C R CC (L2.upd H1 lw1 (.lst (ws1.reverse.map V.ref++[V.ref a]))) r M c ⟨ms.pos,e :: rest,ms.chs⟩ dx1 lr1 lw1 lc1 ts1 (a :: ws1) cs1 :=
      D1.Iv (s':=⟨ms.pos,e :: rest,ms.chs⟩) (fun b _ hb=>au hb) (by rw [ho]; exact az.refl _) rfl rfl (by rw [ak,bz]) (by rw [ho]; exact .cons hna D1.wn)
    refine ⟨_,rfl,r,R,dx1,_,_,rfl,D2.obj,T.R.cl,T.R.nA,rfl,_,_,rfl,rfl,dx1,_,D2.obj,by show 4 < 1000; decide,?_⟩
    have D3:=D2.LR (ms.pos+1)
    refine k _ hp _ ⟨dx1,lr1,lw1,lc1,ts1,a :: ws1,cs1,?_⟩ ?_
    · exact D3
    · show az (off M H) (off M (L2.upd _ r _))
      rw [fu m1,ho]
      exact sm
end
theorem d9.row {C R CC:Addr} {H:Hp} {r:Addr} {M:List Addr} {c:Vbdeaa.Code} {s:MS} {dx lr lw lc:Addr} {ts ws cs:List Addr} (D:d9 C R CC H r M c s dx lr lw lc ts ws cs) {p:Nat} {i:Ins} (h:c[p]?=some i):∃ t,lF (ts.map V.ref) (p:Int)=some (V.ref t)∧off M H t=some (.tup (vI i.told)):=by
  have hp:(fX c)[p]?=some i.told:=by unfold fX; rw [List.getElem?_map,h]; rfl
  obtain ⟨t,ht,hq⟩:=cM D.told hp
  exact ⟨t,jr (by rw [List.getElem?_map,ht]; rfl),hq⟩
theorem d9.len {C R CC:Addr} {H:Hp} {r:Addr} {M:List Addr} {c:Vbdeaa.Code} {s:MS} {dx lr lw lc:Addr} {ts ws cs:List Addr} (D:d9 C R CC H r M c s dx lr lw lc ts ws cs):(ts.map V.ref).length=c.length:=by
  rw [List.length_map,← Paired.length D.told]
  unfold fX
  rw [List.length_map]
def Kg:Ins→Int
  | .push _=>0 | .arg _=>1 | .var _=>2 | .un _=>3 | .bin _=>4 | .jump _=>5 | .zero _=>6 | .table _=>7 | .call _ _=>8 | .truth=>9 | .best _=>10
theorem tu (i:Ins):lF (vI i.told) 0=some (V.int (Kg i)):=at_of (j:=0) rfl (by cases i <;> rfl)
theorem Gx {i:Ins} (h:Kg i=5):∃ m,i=.jump m:=by cases i <;> first | exact ⟨_,rfl⟩ | cases h
structure U6 (P:Program) (w:World) (K:PySem.W.Frag) (mg:Str→Option Value) (base:Heap) (CC fC fL:Addr) (dC dL:FuncData):Prop where
  mk_:Mk K CC fC
  ok:aL P w K mg base (bh P w) 1 fC dC ["self","condition","start","middle","end","base"] (Iu CC)
  b:Binds K dC ["self","condition","start","middle","end","base"] []
  m:mg "Choice"=some (.ref CC)
  lim:aL P w K mg base (bh P w) 1 fL dL ["self"] (wQ CC)
  limm:Meth K CC "limit" fL
  limb:Binds K dL ["self"] []
section
variable {P:Program} {w:World} {K:PySem.W.Frag} {mg:Str→Option Value} {base:Heap}
theorem IW:aN ["self","choice"] ["self"] (aD (b7 8)):=⟨rfl,rfl,rfl,by decide +kernel,rfl,by decide +kernel,by decide +kernel⟩
theorem Nb {f C R CC Cn fI:Addr} {fd dI:FuncData} {fN fT fO fFo fPi fNa:Addr} {dN dT dO dFo dPi dNa:FuncData} (F:jA K "go_on_choice" "Recovery.go_on_choice" (b7 8) f fd) (G:RF P w K mg base C R CC Cn fI dI fN fT fO fFo fPi fNa dN dT dO dFo dPi dNa):aL P w K mg base (bh P w) 5 f fd ["self"] (Io C R CC Cn):=by
  have T:=G.T
  have X:=G.X
  refine fV F IW (fun vs H Q E h=>?_) (fun cdv A outer s H vs Q E hr h=>?_)
  · obtain ⟨_,_,_,_,rfl,_⟩:=h
    rfl
  · obtain ⟨r,M,c,ms,rfl,hrec,wf,k,kr⟩:=h
    obtain ⟨dx,lr,lw,lc,ts,ws,cs,D⟩:=id hrec
    have hr3:bH 3 _:=hr.mono (by omega)
    refine ⟨_,aj (aY (jh (iT (aF (pv 0) rfl) (fun _=>rfl))) (ao (b_ X.made X.cls X.ok hr3 rfl X.m X.b rfl bU)) aH)
      (aj (aW (i:=1) IW.nd rfl (Or.inl rfl) (bj cD (aF (pv 0) rfl) (gC d_ aA) (fun _ _=>rfl)))
      (aj (aY (aG ut (aF (pv 0) rfl) (cJ iH (aF (pv 1) rfl) aA) (aK _)) (ao (b_ X.made X.cls X.ok hr3 rfl X.m X.b rfl bU)) aH)
      (aj (eE (pv 1) (dU (pv 0) T.R.cl G.tom G.to hr G.tob .nil passes) rfl)
      (ao (pP (pv 0) aA BK))))),?_⟩
    have bad:MX.jump ms=none→bB Cn (-3) H E:=fun h=>(kr h).mono (aO M H)
    refine ⟨_,rfl,r,R,dx,_,_,rfl,D.obj,T.R.cl,T.R.nC,rfl,_,.inl ⟨_,bG.of D.cl,rfl⟩,?_⟩
    have hcn:=D.cn
    cases hs:ms.chs with
    | nil =>
      rw [hs] at hcn
      cases hcn
      refine cF (bad ?_).go
      unfold MX.jump
      rw [hs]
      split <;> first | rfl | (rename_i h; cases h) | (rename_i h _; cases h)
    | cons x q =>
      rw [hs] at hcn
      cases hcn with
      | @cons _ _ a dxa cd as fp h1 h2 h3 h4 =>
        have hcl:=D.cl
        rw [bz] at hcl ⊢
        rw [show (!(as.reverse.map V.ref++[V.ref a]).isEmpty)=true by simp]
        have ch:=wf.chain
        rw [hs] at ch
        obtain ⟨c1,c2,c3,c4,c5,c6⟩:=ch
        refine aZ ⟨_,rfl,r,R,dx,_,_,rfl,D.obj,T.R.cl,T.R.nC,rfl,_,rfl,lc,_,_,_,rfl,rfl,bG.of hcl,o5,?_⟩
        refine ⟨_,rfl,r,R,dx,_,_,rfl,D.obj,T.R.cl,T.R.nA,rfl,_,rfl,a,CC,dxa,_,_,rfl,h1,T.H.cl,T.H.nM,rfl,_,_,rfl,rfl,rfl,_,rfl,bO (fun hne=>?_) fun hne=>?_⟩
        · refine (bad ?_).go
          unfold MX.jump
          rw [hs]
          split
          · rename_i e1 x' r' hcur hcs
            cases hcs
            rw [if_neg]
            intro z
            have:¬ V.int (ms.pos:Nat)=V.int ((x.middle:Nat) - 1):=by simpa using hne
            exact this (by congr 1; omega)
          · rfl
        have hmid:ms.pos+1=x.middle:=by
          have:V.int (ms.pos:Nat)=V.int ((x.middle:Nat) - 1):=by simpa using hne
          have:=cZ this
          omega
        refine ⟨_,rfl,r,dx,_,rfl,D.obj,rfl,r,M,c,ms,rfl,hrec,?_,fun hno=>kr ?_⟩
        · rintro e he b H1 hnb ⟨dx1,lr1,lw1,lc1,ts1,ws1,cs1,D1⟩ sm
          obtain ⟨m1,m2,m3,m4,n1,n2,n3,n4⟩:=D1.rM
          obtain ⟨ew,el,ecs⟩:lw1=lw∧lc1=lc∧cs1=a :: as:=by
            have e1:=D1.mem
            rw [D.mem] at e1
            injection e1 with _ e1
            injection e1 with e2 e1
            injection e1 with e3 e1
            exact ⟨e2.symm,e3.symm,e1.symm⟩
          subst ecs
          have hcn1:gD C CC (off M H1) H1 (x :: q) (a :: as):=by
            have:=D1.cn
            rw [show ({ ms with cur:=[] }:MS).chs=x :: q from hs] at this
            exact this
          have nd:=D1.nd
          rw [D1.mem] at nd
          simp only [List.nodup_cons,List.mem_cons,not_or] at nd
          cases hcn1 with
          | @cons _ _ _ dxa1 cd1 _ fp1 g1 g2 g3 g4 =>
            have na:=n4 a List.mem_cons_self
            refine ⟨_,rfl,a,CC,dxa1,_,rfl,g1,T.H.cl,T.H.nF,by show 6 < 1000; decide,?_⟩
            rw [Mu]
            have aM:a∈M:=m4 a List.mem_cons_self
            have ho:off M (L2.upd H1 a (.ins CC dxa1 (uR cd1 (x.start:Nat) (x.middle:Nat) (x.end_:Nat) ((bC (x :: q)).length:Nat) (.ref b))))=off M H1:=fu aM
            have D2:d9 C R CC (L2.upd H1 a (.ins CC dxa1 (uR cd1 (x.start:Nat) (x.middle:Nat) (x.end_:Nat) ((bC (x :: q)).length:Nat) (.ref b)))) r M c ⟨ms.pos,[],{ x with first:=some e } :: q⟩ dx1 lr1 lw1 lc1 ts1 ws1 (a :: as):=by
              refine D1.next (s':=⟨ms.pos,[],{ x with first:=some e } :: q⟩) (by rw [ho]; exact az.refl _) (by rw [au (Ne.symm na.1)]; exact D1.obj) (by rw [au (Ne.symm na.2.1)]; exact D1.wl) ?_ (by rw [au (Ne.symm na.2.2)]; exact D1.cl) ?_
              · rw [ho]
                have:=D1.wn
                unfold waitOf at this ⊢
                rw [show ({ ms with cur:=[] }:MS).chs=x :: q from hs] at this
                exact this
              · refine .cons (fp:=.ref b) ak (by rw [ho]; exact g2) ⟨b,rfl,by rw [ho]; exact hnb⟩ (g4.mono (by rw [ho]; exact az.refl _) fun y hy=>au fun z=>?_)
                subst z
                exact nd.2.2.2.1 hy
            refine ⟨_,rfl,r,R,dx1,_,_,rfl,D2.obj,T.R.cl,T.R.nA,rfl,_,_,rfl,rfl,dx1,_,D2.obj,by show 4 < 1000; decide,?_⟩
            have D3:=D2.LR (ms.pos+1)
            refine k ⟨ms.pos+1,[],{ x with first:=some e } :: q⟩ ?_ _ ⟨dx1,lr1,lw1,lc1,ts1,ws1,a :: as,D3⟩ ?_
            · unfold MX.jump
              rw [hs,he]
              simp only
              rw [if_pos hmid]
            · show az (off M H) (off M (L2.upd _ r _))
              rw [fu m1,ho]
              exact sm
        · unfold MX.jump
          rw [hs]
          split
          · rename_i e1 x' r' hcur hcs
            exact absurd hcur (hno e1)
          · rfl
end
theorem Gk {C:Addr} {G:Hp} {x:Ch} {fp:V} (h:ju C G x.first fp) (hm:x.start < x.middle):(if fp=.non then ((x.middle:Nat):Int) - 1 else ((x.end_:Nat):Int))=((x.limit:Nat):Int):=by
  unfold Ch.limit
  cases hf:x.first with
  | none =>
    rw [hf] at h
    rw [if_pos (show fp=.non from h)]
    simp only
    omega
  | some f =>
    rw [hf] at h
    obtain ⟨a,rfl,_⟩:=h
    rw [if_neg (by intro z; cases z)]
section
variable {P:Program} {w:World} {K:PySem.W.Frag} {mg:Str→Option Value} {base:Heap}
theorem J7 {C R CC:Addr} {H:Hp} {r:Addr} {M:List Addr} {c:Vbdeaa.Code} {s:MS} {dx lr lw lc:Addr} {ts ws cs:List Addr} (D:d9 C R CC H r M c s dx lr lw lc ts ws cs) (T:RT K mg C R CC) (ch:MX.Chain c s.pos s.chs) {σ:L2.St} {E:XK} (hσ:σ[0]?=some (some (.ref r))) {Q:VK} (h:Q (.int (MX.limitOf c s.chs:Nat)) H) :
    Lg (fun σ H Q=>m5 K (jE 0) "choices" σ H fun x H'=>∃ k,Rt K x H' k∧Q k H') (jK CC "limit" (wQ CC) [] E (z_ (rG K) (m5 K (jE 0) "choices") (UW (rU fun i=>V.int (-i)) (tC (.int 1)))) cU)
      (Eo (fun xs H Q=>∃ p ys,xs=[V.ref p]∧(bG K H p ys∨dY K H p ys)∧Q (.int ys.length) H) (aU (m5 K (jE 0) "rows") cU)) σ H Q:=by
  refine ⟨_,hσ,r,R,dx,_,_,rfl,D.obj,T.R.cl,T.R.nC,rfl,_,.inl ⟨_,bG.of D.cl,rfl⟩,?_⟩
  have hcn:=D.cn
  cases hs:s.chs with
  | nil =>
    rw [hs] at hcn h
    cases hcn
    refine aZ ⟨_,hσ,r,R,dx,_,_,rfl,D.obj,T.R.cl,T.R.nR,rfl,lr,_,rfl,.inl (bG.of (aO _ _ _ _ D.rows)),?_⟩
    rw [D.len]
    exact h
  | cons x q =>
    rw [hs] at hcn h ch
    cases hcn with
    | @cons _ _ a dxa cd as fp h1 h2 h3 h4 =>
      have hcl:=D.cl
      rw [bz] at hcl ⊢
      rw [show (!(as.reverse.map V.ref++[V.ref a]).isEmpty)=true by simp]
      refine cF ⟨_,hσ,r,R,dx,_,_,rfl,D.obj,T.R.cl,T.R.nC,rfl,_,rfl,lc,_,_,_,rfl,rfl,bG.of hcl,o5,a,dxa,_,rfl,h1,rfl,a,dxa,cd,_,_,_,_,fp,rfl,h1,?_⟩
      rw [Gk h3 ch.2.2.1]
      exact h
theorem nJ:aN ["self","length","condition","limit","middle","end"] ["self","length"] (aD (b7 7)):=⟨rfl,rfl,rfl,by decide +kernel,rfl,by decide +kernel,by decide +kernel⟩
theorem JV {f C R CC Cn fI fC fL:Addr} {fd dI dC dL:FuncData} {fN fT fO fFo fPi fNa:Addr} {dN dT dO dFo dPi dNa:FuncData} (F:jA K "begin_choice" "Recovery.begin_choice" (b7 7) f fd) (G:RF P w K mg base C R CC Cn fI dI fN fT fO fFo fPi fNa dN dT dO dFo dPi dNa) (W:U6 P w K mg base CC fC fL dC dL):aL P w K mg base (bh P w) 5 f fd ["self","length"] (Cy C R CC Cn):=by
  have T:=G.T
  have X:=G.X
  refine fV F nJ (fun vs H Q E h=>?_) (fun cdv A outer s H vs Q E hr h=>?_)
  · obtain ⟨_,_,_,_,_,rfl,_⟩:=h
    rfl
  · obtain ⟨r,M,c,ms,n,rfl,hrec,wf,hsm,k,kr⟩:=h
    obtain ⟨dx,lr,lw,lc,ts,ws,cs,D⟩:=id hrec
    have hr3:bH 3 _:=hr.mono (by omega)
    have hr2:bH 2 _:=hr.mono (by omega)
    have hr1:bH 1 _:=hr.mono (by omega)
    refine ⟨_,aj (aW (i:=2) nJ.nd rfl (Or.inl rfl) (bj cD (gk (pv 0) T.R.cl G.tpm G.tp hr G.tpb .nil passes (aa aA aq)) aA (fun _ _=>rfl)))
      (aj (aW (i:=3) nJ.nd rfl (Or.inl rfl) (jX (iT (aF (pv 0) rfl) (fun _=>rfl)) (dU (bj cD (aF (pv 0) rfl) (gC d_ aA) (fun _ _=>rfl)) T.H.cl W.limm W.lim hr1 W.limb .nil passes) (bJ bc (by rfl) T.P.len (by decide +kernel) (aa (aF (pv 0) rfl) aq))))
      (aj (aW (i:=4) nJ.nd rfl (Or.inl rfl) (cJ gA (cJ gA (aF (pv 0) rfl) aA) (pv 1)))
      (aj (aY (PW.pt (qQ (aG qT (pv 4) (pv 3) (aK _)) (pM (aG ut (bj bL (bj cD (aF (pv 0) rfl) (cJ iH (pv 4) aA) (fun _ _=>rfl)) aA (fun _ _=>rfl)) aA (aK _))))) (ao (b_ X.made X.cls X.ok hr3 rfl X.m X.b rfl bU)) aH)
      (aj (aW (i:=5) nJ.nd rfl (Or.inl rfl) (cJ gA (pv 4) (bj bL (bj cD (aF (pv 0) rfl) (cJ iH (pv 4) aA) (fun _ _=>rfl)) aA (fun _ _=>rfl))))
      (aj (aY (aG qT (pv 5) (pv 3) (aK _)) (ao (b_ X.made X.cls X.ok hr3 rfl X.m X.b rfl bU)) aH)
      (aj (bf (iU PySem.F.plainAttrs_list PySem.F.slot_list_append PySem.F.type_list_append f9 (aF (pv 0) rfl) (aa (dz W.mk_ W.ok hr2 rfl W.m W.b .nil passes (aa (pv 2) (aa (aF (pv 0) rfl) (aa (pv 4) (aa (pv 5) (aa (bJ bc (by rfl) T.P.len (by decide +kernel) (aa (aF (pv 0) rfl) aq)) aq)))))) aq)))
      (ao (pP (pv 0) aA BK)))))))),?_⟩
    have chn:=wf.chain
    have hlim:=chn.limit
    refine ⟨_,rfl,r,dx,_,rfl,D.obj,rfl,r,M,c,ms,1,rfl,hrec,by decide,fun hl=>?_,fun hl=>kr ?_⟩
    rotate_left
    · unfold MX.begin_
      cases hcur:ms.cur with
      | nil=>rfl
      | cons x st=>rw [hcur] at hl; simp at hl
    cases hcur:ms.cur with
    | nil=>rw [hcur] at hl; exact absurd hl (by decide)
    | cons a0 st =>
      rintro l las H1 hl0 hl1 hp ⟨dx1,lr1,lw1,lc1,ts1,ws1,cs1,D1⟩ sm
      have D1:d9 C R CC H1 r M c ⟨ms.pos,st,ms.chs⟩ dx1 lr1 lw1 lc1 ts1 ws1 cs1:=D1
      obtain ⟨cd,rfl,hcd⟩:∃ cd,las=[cd]∧aV C (off M H1) a0 cd:=by
        have hp:Paired (aV C (off M H1)) [a0] las:=hp
        cases hp with
        | cons z1 z2=>cases z2; exact ⟨_,rfl,z1⟩
      obtain ⟨m1,m2,m3,m4,n1,n2,n3,n4⟩:=D1.rM
      refine ⟨l,_,_,_,rfl,rfl,bG.of (aO _ _ _ _ hl1),at_of (j:=0) rfl rfl,?_⟩
      have bad:MX.begin_ c n ms=none→bB Cn (-3) H1 E:=fun h=>(kr h).mono (sm.trans (aO M H1))
      refine J7 (E:=E) D1 T chn rfl ?_
      refine ⟨_,rfl,r,R,dx1,_,_,rfl,D1.obj,T.R.cl,T.R.nA,rfl,_,_,rfl,rfl,_,rfl,_,_,rfl,rfl,?_⟩
      have hmid:((ms.pos:Nat):Int)+1+(n:Int)=((ms.pos+1+n:Nat):Int):=by omega
      refine ⟨_,rfl,_,rfl,_,_,rfl,rfl,_,rfl,bO (fun h1=>cF (bad ?_).go) fun h1=>?_⟩
      · have h1:((MX.limitOf c ms.chs:Nat):Int) < (ms.pos:Nat)+1+(n:Int):=of_decide_eq_true h1
        unfold MX.begin_
        rw [hcur]
        simp only
        rw [if_pos (by omega)]
      have h1:ms.pos+1+n≤MX.limitOf c ms.chs:=by
        have:¬ ((MX.limitOf c ms.chs:Nat):Int) < (ms.pos:Nat)+1+(n:Int):=fun z=>h1 (decide_eq_true z)
        omega
      obtain ⟨ii,hii⟩:∃ ii,c[ms.pos+n]?=some ii:=⟨_,List.getElem?_eq_getElem (by omega)⟩
      obtain ⟨t,hat,ht⟩:=D1.row hii
      have hat':lF (ts1.map V.ref) (((ms.pos:Nat):Int)+1+(n:Int) - 1)=some (V.ref t):=by
        rw [show ((ms.pos:Nat):Int)+1+(n:Int) - 1=((ms.pos+n:Nat):Int) by omega]
        exact hat
      have ht0:=aO _ _ _ _ ht
      have hrows:=aO _ _ _ _ D1.rows
      refine ⟨_,rfl,r,R,dx1,_,_,rfl,D1.obj,T.R.cl,T.R.nR,rfl,_,rfl,_,_,rfl,rfl,lr1,_,_,_,rfl,rfl,bG.of hrows,hat',t,_,_,_,rfl,rfl,dY.of ht0,tu ii,rfl,_,rfl,bO (fun h2=>(bad ?_).go) fun h2=>?_⟩
      · unfold MX.begin_
        rw [hcur]
        simp only
        rw [if_neg (by omega),hii]
        simp only [Option.bind_some]
        have hne:¬ V.int (Kg ii)=V.int 5:=by simpa using h2
        cases ii with
        | jump m=>exact absurd rfl hne
        | _=>rfl
      have h5:Kg ii=5:=by
        have:V.int (Kg ii)=V.int 5:=by simpa using h2
        exact cZ this
      obtain ⟨m,rfl⟩:=Gx h5
      refine ⟨_,rfl,_,rfl,r,R,dx1,_,_,rfl,D1.obj,T.R.cl,T.R.nR,rfl,_,rfl,_,_,rfl,rfl,lr1,_,_,_,rfl,rfl,bG.of hrows,hat',t,_,_,_,rfl,rfl,dY.of ht0,at_of (j:=1) rfl rfl,_,_,rfl,rfl,?_⟩
      refine ⟨_,rfl,_,rfl,_,_,rfl,rfl,_,rfl,bO (fun h3=>(bad ?_).go) fun h3=>?_⟩
      · have h3:((MX.limitOf c ms.chs:Nat):Int) < (ms.pos:Nat)+1+(n:Int)+(m:Int):=of_decide_eq_true h3
        unfold MX.begin_
        rw [hcur]
        simp only
        rw [if_neg (by omega),hii]
        simp only [Option.bind_some,Vbdeam.jumpOf]
        rw [if_pos (by omega)]
      have h3:ms.pos+1+n+m≤MX.limitOf c ms.chs:=by
        have:¬ ((MX.limitOf c ms.chs:Nat):Int) < (ms.pos:Nat)+1+(n:Int)+(m:Int):=fun z=>h3 (decide_eq_true z)
        omega
      have hbeg:MX.begin_ c n ms=some ⟨ms.pos+1,[],⟨a0,ms.pos,ms.pos+1+n,ms.pos+1+n+m,none,st⟩ :: ms.chs⟩:=by
        unfold MX.begin_
        rw [hcur]
        simp only
        rw [if_neg (by omega),hii]
        simp only [Option.bind_some,Vbdeam.jumpOf]
        rw [if_neg (by omega)]
      refine ⟨_,rfl,r,R,dx1,_,_,rfl,D1.obj,T.R.cl,T.R.nC,rfl,.inl ⟨rfl,_,bG.of D1.cl⟩,_,rfl,_,rfl,r,R,dx1,_,_,rfl,D1.obj,T.R.cl,T.R.nA,rfl,_,rfl,_,rfl,_,rfl,r,R,dx1,_,_,rfl,D1.obj,T.R.cl,T.R.nW,rfl,lw1,_,rfl,.inl (bG.of D1.wl),fun x dxx hx hdx hne=>?_⟩
      have hwlen:(ws1.reverse.map V.ref).length=(bC (⟨a0,ms.pos,ms.pos+1+n,ms.pos+1+n+m,none,st⟩ :: ms.chs)).length:=by
        rw [List.length_map,List.length_reverse,← Paired.length D1.wn]
        rfl
      rw [hwlen]
      refine ⟨x,dxx,cd,_,_,_,_,rfl,ak,fun H2 sx hx2=>⟨rfl,?_⟩⟩
      have s12:az H1 H2:=fun b o q=>sx b o (by rw [au (aB q hx),au (aB q hdx)]; exact q) (aB q hx)
      have K2:=gb.of_same D1.there s12
      have D2:=D1.keep K2
      have xM:x∉M:=fun z=>by
        obtain ⟨o,ho⟩:=D1.there x z
        rw [hx] at ho
        cases ho
      refine ⟨lc1,_,_,rfl,rfl,D2.cl,?_,?_⟩
      · have hcl:cs1.length=ms.chs.length:=by
          have:∀ {chs:List Ch} {as:List Addr},gD C CC (off M H1) H1 chs as→as.length=chs.length:=by
            intro chs as h
            induction h with
            | nil=>rfl
            | cons _ _ _ _ ih=>rw [List.length_cons,List.length_cons,ih]
          exact this D1.cn
        rw [List.length_map,List.length_reverse,hcl]
        unfold Small at hsm
        exact Nat.lt_of_le_of_lt (by omega:_≤1000) (by decide)
      have nlx:lc1≠x:=fun z=>xM (z ▸ m3)
      have out:az (off M H1) (off (r :: lw1 :: lc1 :: x :: cs1) (L2.upd H2 lc1 (.lst (cs1.reverse.map V.ref++[V.ref x])))):=fun b o q=>by
        have bM:=jj q
        have q1:=aO _ _ _ _ q
        have bx:b≠x:=aB q1 hx
        refine cz ?_ ?_
        · rw [au (show b≠lc1 from fun z=>bM (z ▸ m3))]
          exact s12 _ _ q1
        · rw [D1.mem] at bM
          simp only [List.mem_cons,not_or] at bM ⊢
          exact ⟨bM.1,bM.2.1,bM.2.2.1,bx,bM.2.2.2⟩
      have hx3:H2 x=some (.ins CC dxx (uR cd (ms.pos:Nat) ((ms.pos+1+n:Nat):Int) ((ms.pos+1+n+m:Nat):Int) ((bC (⟨a0,ms.pos,ms.pos+1+n,ms.pos+1+n+m,none,st⟩ :: ms.chs)).length:Nat) .non)):=by
        rw [hx2,← hmid,show ((ms.pos+1+n+m:Nat):Int)=(ms.pos:Nat)+1+(n:Int)+(m:Int) by omega]
      have D3:d9 C R CC (L2.upd H2 lc1 (.lst (cs1.reverse.map V.ref++[V.ref x]))) r (r :: lw1 :: lc1 :: x :: cs1) c ⟨ms.pos,[],⟨a0,ms.pos,ms.pos+1+n,ms.pos+1+n+m,none,st⟩ :: ms.chs⟩ dx1 lr1 lw1 lc1 ts1 ws1 (x :: cs1):=by
        refine ⟨rfl,?_,by rw [au n2]; exact D2.obj,out _ _ D1.rows,D1.told.same out,by rw [au n3]; exact D2.wl,cR out D1.wn,by rw [ak,bz],?_⟩
        · have nd:=D1.nd
          rw [D1.mem] at nd xM
          simp only [List.nodup_cons,List.mem_cons,not_or] at nd xM ⊢
          obtain ⟨⟨z1,z2,z3⟩,⟨z4,z5⟩,z6,z7⟩:=nd
          obtain ⟨y1,y2,y3,y4⟩:=xM
          exact ⟨⟨z1,z2,Ne.symm y1,z3⟩,⟨z4,Ne.symm y2,z5⟩,⟨Ne.symm y3,z6⟩,y4,z7⟩
        · refine .cons (fp:=.non) (by rw [au (Ne.symm nlx)]; exact hx3) (hcd.same out) rfl (D1.cn.mono out fun b hb=>?_)
          rw [au (n4 b hb).2.2]
          exact K2.ins b (m4 b hb)
      refine ⟨_,rfl,r,R,dx1,_,_,rfl,D3.obj,T.R.cl,T.R.nA,rfl,_,_,rfl,rfl,dx1,_,D3.obj,by show 4 < 1000; decide,?_⟩
      refine k _ hbeg _ _ ⟨dx1,lr1,lw1,lc1,ts1,ws1,x :: cs1,D3.LR (ms.pos+1)⟩ ?_
      show az (off M H) (off (r :: lw1 :: lc1 :: x :: cs1) (L2.upd _ r _))
      rw [fu List.mem_cons_self]
      exact sm.trans out
end
theorem rE:∀ ns ms:List Int,PyData.eqvAll (ns.map PyData.int) (ms.map PyData.int)=decide (ns=ms)
  | [],[]=>by simp [PyData.eqvAll]
  | [],m :: ms=>by simp [PyData.eqvAll]
  | n :: ns,[]=>by simp [PyData.eqvAll]
  | n :: ns,m :: ms=>by
    simp only [List.map_cons,PyData.eqvAll,rE ns ms]
    simp [PyData.eqv,Bool.beq_eq_decide_eq]
theorem zE (ns ms:List Int):PyData.eqv (.tuple (ns.map PyData.int)) (.tuple (ms.map PyData.int))=decide (ns=ms):=by
  rw [← rE]
  rfl
theorem oV {K:PySem.W.Frag} {H:Hp}:∀ l:List Int,u5 K H (vI l) (l.map PyData.int)
  | []=>.nil
  | n :: r=>.cons (.int n) (oV r)
theorem CG (a b c:Int):SeqAt.shaped (.tuple ([a,b,c].map PyData.int))=true:=by rfl
theorem qM (i:Ins):SeqAt.shaped (.tuple (i.told.map PyData.int))=true:=by cases i <;> rfl
def ux (c:Vbdeaa.Code) (x:Ch):Int:=match x.first with
  | none=>if MX.isAnd c x=true then (x.middle:Int) - 2 else -1
  | some _=>if MX.vp c x=true then (x.end_:Int) - 1 else -1
def Ql (C R CC:Addr):Sp:=fun vs H Q _=>∃ (r dx lr lw lc a dxa cd:Addr) (i b:Int) (ts:List Addr) (c:Vbdeaa.Code) (x:Ch) (fp:V) (G:Hp),vs=[.ref r,.ref a]∧H r=some (.ins R dx (Ff lr i lw lc))∧H lr=some (.lst (ts.map V.ref))∧b8 H c ts ∧
  H a=some (.ins CC dxa (uR cd (x.start:Nat) (x.middle:Nat) (x.end_:Nat) b fp))∧ju C G x.first fp∧x.middle≤x.end_∧x.end_≤c.length∧Q (.int (ux c x)) H
theorem Jl {H:Hp} {c:Vbdeaa.Code} {ts:List Addr} (h:b8 H c ts) {p:Nat} {i:Ins} (hi:c[p]?=some i):∃ t,lF (ts.map V.ref) (p:Int)=some (V.ref t)∧H t=some (.tup (vI i.told)):=by
  have hp:(fX c)[p]?=some i.told:=by unfold fX; rw [List.getElem?_map,hi]; rfl
  obtain ⟨t,ht,hq⟩:=cM h hp
  exact ⟨t,jr (by rw [List.getElem?_map,ht]; rfl),hq⟩
theorem Eg (i:Ins):decide (i.told=[0,0,1])=Vbdeam.isZeroIns i:=by
  cases i with
  | push q =>
    obtain ⟨a,b⟩:=q
    show decide ([0,a,(b:Int)]=[0,0,1])=((a,b)==((0,1):Vbdeaa.Q))
    rw [Bool.eq_iff_iff]
    simp only [decide_eq_true_eq,beq_iff_eq,List.cons.injEq,and_true,true_and,Prod.mk.injEq]
    exact ⟨fun ⟨h1,h2⟩=>⟨h1,by omega⟩,fun ⟨h1,h2⟩=>⟨h1,by omega⟩⟩
  | _=>rfl
theorem Ft (i:Ins):decide (i.told=[0,1,1])=Vbdeam.isOne i:=by
  cases i with
  | push q =>
    obtain ⟨a,b⟩:=q
    show decide ([0,a,(b:Int)]=[0,1,1])=((a,b)==((1,1):Vbdeaa.Q))
    rw [Bool.eq_iff_iff]
    simp only [decide_eq_true_eq,beq_iff_eq,List.cons.injEq,and_true,true_and,Prod.mk.injEq]
    exact ⟨fun ⟨h1,h2⟩=>⟨h1,by omega⟩,fun ⟨h1,h2⟩=>⟨h1,by omega⟩⟩
  | _=>rfl
section
variable {P:Program} {w:World} {K:PySem.W.Frag} {mg:Str→Option Value} {base:Heap}
theorem Ay:aN ["self","choice","is_and","is_or"] ["self","choice"] (aD (b7 10)):=⟨rfl,rfl,rfl,by decide +kernel,rfl,by decide +kernel,by decide +kernel⟩
theorem M7 {f C R CC:Addr} {fd:FuncData} (F:jA K "place_of_nine" "Recovery.place_of_nine" (b7 10) f fd) (T:RT K mg C R CC):aL P w K mg base (bh P w) 1 f fd ["self","choice"] (Ql C R CC):=by
  refine fV F Ay (fun vs H Q E h=>?_) (fun cdv A outer s H vs Q E hr h=>?_)
  · obtain ⟨_,_,_,_,_,_,_,_,_,_,_,_,_,_,_,rfl,_⟩:=h
    rfl
  · obtain ⟨r,dx,lr,lw,lc,a,dxa,cd,i,b,ts,c,x,fp,G,rfl,hr0,hlr,hrw,ha,hfp,hme,hec,k⟩:=h
    refine ⟨_,aj (aY (xm (Be (aF (pv 1) rfl)))
        (aj (aW (i:=2) Ay.nd rfl (Or.inl rfl) (xx (gm bI (aF (pv 1) rfl) (cJ gA (aF (pv 1) rfl) aA) (aK _)) (uo (gm (JG hr.units) (bj cD (aF (pv 0) rfl) (aF (pv 1) rfl) (fun _ _=>rfl)) (R7 rfl T.S.Z) (aK _)))))
        (ao (aJ (jX (my (pv 2)) (cJ iH (aF (pv 1) rfl) aA) (gC d_ aA))))) aH)
      (aj (aW (i:=3) Ay.nd rfl (Or.inl rfl) (xx (gm bI (aF (pv 1) rfl) (cJ gA (aF (pv 1) rfl) aA) (aK _)) (uo (gm (JG hr.units) (bj cD (aF (pv 0) rfl) (cJ gA (aF (pv 1) rfl) aA) (fun _ _=>rfl)) (R7 rfl T.S.O) (aK _)))))
      (ao (aJ (jX (my (pv 3)) (cJ iH (aF (pv 1) rfl) aA) (gC d_ aA))))),?_⟩
    refine ⟨_,rfl,a,CC,dxa,_,_,rfl,ha,T.H.cl,T.H.nF,rfl,_,rfl,?_⟩
    unfold ux at k
    cases hf:x.first with
    | none =>
      rw [hf] at hfp k
      obtain rfl:fp=.non:=hfp
      simp only at k
      refine cF ?_
      refine ⟨_,rfl,a,CC,dxa,_,_,rfl,ha,T.H.cl,T.H.nE,rfl,_,rfl,a,CC,dxa,_,_,rfl,ha,T.H.cl,T.H.nM,rfl,_,_,rfl,rfl,rfl,_,rfl,bO (fun h1=>?_) fun h1=>?_⟩
      · have h1:x.end_=x.middle+1:=by
          have:=cZ (of_decide_eq_true h1)
          omega
        obtain ⟨ii,hii⟩:∃ ii,c[x.middle]?=some ii:=⟨_,List.getElem?_eq_getElem (by omega)⟩
        obtain ⟨t,hat,ht⟩:=Jl hrw hii
        refine ⟨_,rfl,r,R,dx,_,_,rfl,hr0,T.R.cl,T.R.nR,rfl,_,rfl,a,CC,dxa,_,_,rfl,ha,T.H.cl,T.H.nM,rfl,lr,_,_,_,rfl,rfl,bG.of hlr,hat,fun v hv=>?_⟩
        obtain ⟨z,zs,rfl,hsq,hpz⟩:=hv.tup
        have ez:=iV hpz
        subst ez
        refine ⟨_,_,.tup (dY.of ht) (oV _),.tup (hsq H) (oV [0,0,1]),qM ii,CG 0 0 1,_,rfl,_,rfl,?_⟩
        rw [zE,Eg]
        have ea:MX.isAnd c x=Vbdeam.isZeroIns ii:=by
          unfold MX.isAnd
          rw [hii,decide_eq_true h1]
          rfl
        cases hz:Vbdeam.isZeroIns ii with
        | true =>
          rw [ea,hz,if_pos rfl] at k
          exact cF ⟨_,rfl,a,CC,dxa,_,_,rfl,ha,T.H.cl,T.H.nM,rfl,_,_,rfl,rfl,k⟩
        | false =>
          rw [ea,hz,if_neg (by decide)] at k
          exact aZ ⟨_,rfl,k⟩
      · have ea:MX.isAnd c x=false:=by
          unfold MX.isAnd
          rw [decide_eq_false (fun z=>h1 (decide_eq_true (by rw [z]; rfl))),Bool.false_and]
        rw [ea,if_neg (by decide)] at k
        exact ⟨_,rfl,_,rfl,aZ ⟨_,rfl,k⟩⟩
    | some f0 =>
      rw [hf] at hfp k
      obtain ⟨fa,rfl,_⟩:=hfp
      simp only at k
      refine aZ ?_
      refine ⟨_,rfl,a,CC,dxa,_,_,rfl,ha,T.H.cl,T.H.nM,rfl,_,rfl,a,CC,dxa,_,_,rfl,ha,T.H.cl,T.H.nS,rfl,_,_,rfl,rfl,rfl,_,rfl,bO (fun h1=>?_) fun h1=>?_⟩
      · have h1:x.middle=x.start+3:=by
          have:=cZ (of_decide_eq_true h1)
          omega
        obtain ⟨ii,hii⟩:∃ ii,c[x.start+1]?=some ii:=⟨_,List.getElem?_eq_getElem (by omega)⟩
        obtain ⟨t,hat,ht⟩:=Jl hrw hii
        refine ⟨_,rfl,r,R,dx,_,_,rfl,hr0,T.R.cl,T.R.nR,rfl,_,rfl,a,CC,dxa,_,_,rfl,ha,T.H.cl,T.H.nS,rfl,_,_,rfl,rfl,lr,_,_,_,rfl,rfl,bG.of hlr,hat,fun v hv=>?_⟩
        obtain ⟨z,zs,rfl,hsq,hpz⟩:=hv.tup
        have ez:=iV hpz
        subst ez
        refine ⟨_,_,.tup (dY.of ht) (oV _),.tup (hsq H) (oV [0,1,1]),qM ii,CG 0 1 1,_,rfl,_,rfl,?_⟩
        rw [zE,Ft]
        have ea:MX.vp c x=Vbdeam.isOne ii:=by
          unfold MX.vp
          rw [hii,decide_eq_true h1]
          rfl
        cases hz:Vbdeam.isOne ii with
        | true =>
          rw [ea,hz,if_pos rfl] at k
          exact cF ⟨_,rfl,a,CC,dxa,_,_,rfl,ha,T.H.cl,T.H.nE,rfl,_,_,rfl,rfl,k⟩
        | false =>
          rw [ea,hz,if_neg (by decide)] at k
          exact aZ ⟨_,rfl,k⟩
      · have ea:MX.vp c x=false:=by
          unfold MX.vp
          rw [decide_eq_false (fun z=>h1 (decide_eq_true (by rw [z]; rfl))),Bool.false_and]
        rw [ea,if_neg (by decide)] at k
        exact ⟨_,rfl,_,rfl,aZ ⟨_,rfl,k⟩⟩
end
theorem d9.pop {C R CC:Addr} {H:Hp} {r:Addr} {M:List Addr} {c:Vbdeaa.Code} {p:Nat} {x:Ch} {q:List Ch} {dx lr lw lc a:Addr} {ts ws as:List Addr} (D:d9 C R CC H r M c ⟨p,[],x :: q⟩ dx lr lw lc ts ws (a :: as)) :
    az (off M H) (off (r :: lw :: lc :: as) (L2.upd H lc (.lst (as.reverse.map V.ref))))∧d9 C R CC (L2.upd H lc (.lst (as.reverse.map V.ref))) r (r :: lw :: lc :: as) c ⟨p,x.below,q⟩ dx lr lw lc ts ws as∧a∉(r :: lw :: lc :: as) ∧
    ∃ dxa cd fp,(L2.upd H lc (.lst (as.reverse.map V.ref))) a=some (.ins CC dxa (uR cd (x.start:Nat) (x.middle:Nat) (x.end_:Nat) ((bC (x :: q)).length:Nat) fp))∧aV C (off M H) x.cond cd∧ju C (off M H) x.first fp:=by
  obtain ⟨m1,m2,m3,m4,n1,n2,n3,n4⟩:=D.rM
  have nd:=D.nd
  rw [D.mem] at nd
  simp only [List.nodup_cons,List.mem_cons,not_or] at nd
  obtain ⟨⟨z1,z2,z3,z4⟩,⟨z5,z6,z7⟩,⟨z8,z9⟩,z10,z11⟩:=nd
  have out:az (off M H) (off (r :: lw :: lc :: as) (L2.upd H lc (.lst (as.reverse.map V.ref)))):=fun b o e=>by
    have bM:=jj e
    refine cz ?_ ?_
    · rw [au (show b≠lc from fun z=>bM (z ▸ m3))]
      exact aO _ _ _ _ e
    · rw [D.mem] at bM
      simp only [List.mem_cons,not_or] at bM ⊢
      exact ⟨bM.1,bM.2.1,bM.2.2.1,bM.2.2.2.2⟩
  have hcn:gD C CC (off M H) H (x :: q) (a :: as):=D.cn
  cases hcn with
  | @cons _ _ _ dxa cd _ fp g1 g2 g3 g4 =>
    have ea:(L2.upd H lc (.lst (as.reverse.map V.ref))) a=H a:=au (Ne.symm z8)
    refine ⟨out,⟨rfl,?_,by rw [au n2]; exact D.obj,out _ _ D.rows,D.told.same out,by rw [au n3]; exact D.wl,cR out D.wn,ak,g4.mono out fun b hb=>au fun z=>?_⟩,?_,dxa,cd,fp,by rw [ea]; exact g1,g2,g3⟩
    · simp only [List.nodup_cons,List.mem_cons,not_or]
      exact ⟨⟨z1,z2,z4⟩,⟨z5,z7⟩,z9,z11⟩
    · subst z
      exact z9 hb
    · simp only [List.mem_cons,not_or]
      exact ⟨Ne.symm z3,Ne.symm z6,Ne.symm z8,z10⟩
theorem za {C:Addr} {M:List Addr} {H1:Hp} {e:Exp} {D:V} {l:Addr} {as:List Addr} {E:XK} (hM:∀ b∈M,∃ o,H1 b=some o) (hD:jC (off M H1) e D) (hl:off M H1 l=some (.lst (as.map V.ref))) (hp:Paired (aV C (off M H1)) (kids e) as) (hlen:as.length < 2000)
    {x dx:Addr} (hx:H1 x=none) (hdx:H1 dx=none) (hne:dx≠x) {R:Hp→Prop} (k:∀ H2,gb M H1 H2→aV C (off M H2) e x→R H2) :
    pF C [.ref x,.int (fH e),D,.ref l] (L2.upd (L2.upd H1 dx (.own x)) x (.ins C dx [])) (fun v H2=>v=.non∧R H2) E:=by
  have:=eO (C:=C) (E:=E) (Q:=fun v H2=>v=.ref x→R H2) hM hD hl hp hlen (fun y H2 _ kp nd=>fun z=>by cases z; exact k H2 kp nd) x dx hx hdx hne
  obtain ⟨x',dx',l',e',D',as',h1,h2,h3,h4,h5,h6,h7⟩:=this
  exact ⟨x',dx',l',e',D',as',h1,h2,h3,h4,h5,h6,fun H' a b=>⟨(h7 H' a b).1,(h7 H' a b).2 rfl⟩⟩
theorem RW {c:Bool} {a b v:V} {σ:L2.St} {H:Hp} {Q:VK} (h:(if c=true then a else b)=v) (q:Q v H):if c=true then tC a σ H Q else tC b σ H Q:=by
  cases c with
  | true=>rw [if_pos rfl] at h; subst h; exact cF q
  | false=>rw [if_neg (by decide)] at h; subst h; exact aZ q
def Ip (C R CC Cn:Addr):Sp:=fun vs H Q E=>∃ (r:Addr) (M:List Addr) (c:Vbdeaa.Code) (s:MS),vs=[.ref r]∧Rec C R CC H r M c s∧MX.WF c s∧Small s ∧
  (∀ t,MX.nine c s=some t→∀ M' H',Rec C R CC H' r M' c t→az (off M H) (off M' H')→Q .non H')∧(MX.nine c s=none→bB Cn (-3) (off M H) E)
def Ar (C R CC Cn:Addr):Sp:=fun vs H Q E=>∃ (r:Addr) (M:List Addr) (c:Vbdeaa.Code) (s:MS),vs=[.ref r]∧Rec C R CC H r M c s∧MX.Chain c s.pos s.chs∧Small s ∧
  (∀ t,MX.settle s.pos s.cur s.chs=some t→∀ M' H',Rec C R CC H' r M' c t→az (off M H) (off M' H')→Q .non H')∧(MX.settle s.pos s.cur s.chs=none→bB Cn (-3) (off M H) E)
theorem gD.cons_inv {C CC:Addr} {G H:Hp} {chs:List Ch} {as:List Addr} (h:gD C CC G H chs as):(chs=[]∧as=[])∨∃ x q a as',chs=x :: q∧as=a :: as':=by
  cases h with
  | nil=>exact .inl ⟨rfl,rfl⟩
  | cons _ _ _ _=>exact .inr ⟨_,_,_,_,rfl,rfl⟩
section
variable {P:Program} {w:World} {K:PySem.W.Frag} {mg:Str→Option Value} {base:Heap}
theorem wW:aN ["self","second","choice","form"] ["self"] (aD (b7 9)):=⟨rfl,rfl,rfl,by decide +kernel,rfl,by decide +kernel,by decide +kernel⟩
theorem Ng {f fNi C R CC Cn fI:Addr} {fd dNi dI:FuncData} {fN fT fO fFo fPi fNa:Addr} {dN dT dO dFo dPi dNa:FuncData} (F:jA K "end_joining" "Recovery.end_joining" (b7 9) f fd) (G:RF P w K mg base C R CC Cn fI dI fN fT fO fFo fPi fNa dN dT dO dFo dPi dNa) (FNi:Fm K R "place_of_nine" "Recovery.place_of_nine" (b7 10) fNi dNi ["self","choice"]):aL P w K mg base (bh P w) 5 f fd ["self"] (Ip C R CC Cn):=by
  have T:=G.T
  have X:=G.X
  have NN:=G.N
  have GN:aL P w K mg base (bh P w) 1 fNi dNi _ _:=M7 FNi.F T
  refine fV F wW (fun vs H Q E h=>?_) (fun cdv A outer s H vs Q E hr h=>?_)
  · obtain ⟨_,_,_,_,rfl,_⟩:=h
    rfl
  · obtain ⟨r,M,c,ms,rfl,hrec,wf,hsm,k,kr⟩:=h
    obtain ⟨dx,lr,lw,lc,ts,ws,cs,D⟩:=id hrec
    have hr3:bH 3 _:=hr.mono (by omega)
    have hr2:bH 2 _:=hr.mono (by omega)
    have hr1:bH 1 _:=hr.mono (by omega)
    refine ⟨_,aj (aY (jh (iT (aF (pv 0) rfl) (fun _=>rfl))) (ao (b_ X.made X.cls X.ok hr3 rfl X.m X.b rfl bU)) aH)
      (aj (aW (i:=1) wW.nd rfl (Or.inl rfl) (dU (pv 0) T.R.cl G.tom G.to hr G.tob .nil passes))
      (aj (aW (i:=2) wW.nd rfl (Or.inl rfl) (pR PySem.F.plainAttrs_list PySem.F.slot_list_pop PySem.F.type_list_pop xK (aF (pv 0) rfl)))
      (aj (aY (aG ut (aF (pv 0) rfl) (gk (pv 0) T.R.cl FNi.me GN hr1 FNi.b .nil passes (aa (pv 2) aq)) (aK _)) (ao (b_ X.made X.cls X.ok hr3 rfl X.m X.b rfl bU)) aH)
      (aj (aW (i:=3) wW.nd rfl (Or.inl rfl) (jX (xm (Be (aF (pv 2) rfl))) (bD rfl T.Q.AND) (bD rfl T.Q.OR)))
      (aj (bf (iU PySem.F.plainAttrs_list PySem.F.slot_list_append PySem.F.type_list_append f9 (aF (pv 0) rfl) (aa (dz NN.mk_ NN.ok hr2 rfl NN.m NN.b .nil passes (aa (pv 3) (aa aA (aa (bW (aa (aF (pv 2) rfl) (aa (pv 1) aq))) aq)))) aq)))
      (ao (eE (pv 0) (aF (pv 2) rfl) rfl))))))),?_⟩
    refine ⟨_,rfl,r,R,dx,_,_,rfl,D.obj,T.R.cl,T.R.nC,rfl,_,.inl ⟨_,bG.of D.cl,rfl⟩,?_⟩
    rcases D.cn.cons_inv with ⟨hs,rfl⟩ | ⟨x,q,a,as,hs,rfl⟩
    · refine cF ((kr ?_).mono (aO M H)).go
      unfold MX.nine
      rw [hs]
      split <;> first | rfl | (rename_i h; cases h) | (rename_i h _; cases h)
    have hnone:(∀ e,ms.cur≠[e])→MX.nine c ms=none:=fun hno=>by
      unfold MX.nine
      rw [hs]
      split
      · rename_i e1 x' r' hcur hcs
        exact absurd hcur (hno e1)
      · rfl
    have hcl:=D.cl
    rw [bz] at hcl ⊢
    rw [show (!(as.reverse.map V.ref++[V.ref a]).isEmpty)=true by simp]
    refine aZ ⟨_,rfl,r,dx,_,rfl,D.obj,rfl,r,M,c,ms,rfl,hrec,?_,fun hno=>kr (hnone hno)⟩
    rintro e he b H1 hnb ⟨dx1,lr1,lw1,lc1,ts1,ws1,cs1,D1⟩ sm
    obtain ⟨ew,el,ecs⟩:lw1=lw∧lc1=lc∧cs1=a :: as:=by
      have e1:=D1.mem
      rw [D.mem] at e1
      injection e1 with _ e1
      injection e1 with e2 e1
      injection e1 with e3 e1
      exact ⟨e2.symm,e3.symm,e1.symm⟩
    subst ew el ecs
    have D1:d9 C R CC H1 r M c ⟨ms.pos,[],x :: q⟩ dx1 lr1 lw1 lc1 ts1 ws1 (a :: as):=by
      have:=D1
      rw [show ({ ms with cur:=[] }:MS)=⟨ms.pos,[],x :: q⟩ by rw [← hs]] at this
      exact this
    have hcl1:=D1.cl
    rw [bz] at hcl1
    refine ⟨_,rfl,r,R,dx1,_,_,rfl,D1.obj,T.R.cl,T.R.nC,rfl,.inl ⟨rfl,_,bG.of hcl1⟩,lc1,_,_,rfl,rfl,hcl1,ou,?_⟩
    rw [List.dropLast_concat]
    obtain ⟨out,D2,aM,dxa,cd,fp,ha,hcd,hfp⟩:=D1.pop
    generalize hH2:L2.upd H1 lc1 (.lst (as.reverse.map V.ref))=H2 at *
    generalize hM2:(r :: lw1 :: lc1 :: as)=M2 at *
    have chn:=wf.chain
    rw [hs] at chn
    obtain ⟨c1,c2,c3,c4,c5,c6⟩:=chn
    have sm2:=sm.trans out
    have bad:MX.nine c ms=none→bB Cn (-3) H2 E:=fun h=>(kr h).mono (sm2.trans (aO M2 H2))
    refine ⟨_,rfl,r,R,dx1,_,_,rfl,D2.obj,T.R.cl,T.R.nA,rfl,_,rfl,r,dx1,_,rfl,D2.obj,rfl,_,rfl,r,dx1,lr1,lw1,lc1,a,dxa,cd,_,_,ts1,c,x,fp,_,rfl,D2.obj,aO _ _ _ _ D2.rows,D2.told.same (aO _ _),ha,hfp,c4,c6.le,rfl,_,rfl,bO (fun h1=>(bad ?_).go) fun h1=>?_⟩
    · have hne:¬ V.int (ms.pos:Nat)=V.int (ux c x):=by simpa using h1
      unfold MX.nine
      rw [hs,he]
      simp only
      unfold ux at hne
      cases hf:x.first with
      | none =>
        rw [hf] at hne
        simp only at hne ⊢
        rw [if_neg]
        rintro ⟨h2,h3⟩
        rw [h2,if_pos rfl] at hne
        exact hne (by congr 1; omega)
      | some f0 =>
        rw [hf] at hne
        simp only at hne ⊢
        rw [if_neg]
        rintro ⟨h2,h3⟩
        rw [h2,if_pos rfl] at hne
        exact hne (by congr 1; omega)
    have heq:(ms.pos:Int)=ux c x:=by
      have:V.int (ms.pos:Nat)=V.int (ux c x):=by simpa using h1
      exact cZ this
    obtain ⟨nd,fo,hnine,hform,hkids,hdet⟩:∃ (nd:Exp) (fo:Int),MX.nine c ms=some ⟨x.end_,nd :: x.below,q⟩∧fH nd=fo∧kids nd=[x.cond,e]∧(∀ H',jC H' nd (.int 0))∧fo=(if fp=.non then 4 else 5):=by
      unfold ux at heq
      unfold MX.nine
      rw [hs,he]
      simp only
      cases hf:x.first with
      | none =>
        rw [hf] at heq hfp
        obtain rfl:fp=.non:=hfp
        simp only at heq ⊢
        cases hz:MX.isAnd c x with
        | false=>rw [hz,if_neg (by decide)] at heq; omega
        | true =>
          rw [hz,if_pos rfl] at heq
          rw [if_pos ⟨rfl,by omega⟩]
          exact ⟨_,4,rfl,rfl,rfl,fun _=>rfl,rfl⟩
      | some f0 =>
        rw [hf] at heq hfp
        obtain ⟨fa,rfl,_⟩:=hfp
        simp only at heq ⊢
        cases hz:MX.vp c x with
        | false=>rw [hz,if_neg (by decide)] at heq; omega
        | true =>
          rw [hz,if_pos rfl] at heq
          rw [if_pos ⟨rfl,by omega⟩]
          exact ⟨_,5,rfl,rfl,rfl,fun _=>rfl,rfl⟩
    obtain ⟨hdet,hfo⟩:=hdet
    refine ⟨_,rfl,a,CC,dxa,_,_,rfl,ha,T.H.cl,T.H.nF,rfl,_,rfl,RW (v:=.int (fH nd)) ?_ ?_⟩
    · rw [hform,hfo]
      by_cases z:fp=.non
      · rw [if_pos z,decide_eq_true z]; rfl
      · rw [if_neg z,decide_eq_false z]; rfl
    refine ⟨_,rfl,r,R,dx1,_,_,rfl,D2.obj,T.R.cl,T.R.nW,rfl,.inl ⟨rfl,_,bG.of D2.wl⟩,_,rfl,_,rfl,a,CC,dxa,_,_,rfl,ha,T.H.cl,T.H.nC,rfl,_,rfl,by show 2≤sizeLine; decide,fun L hL=>?_⟩
    have s3:=az.upd (o:=.lst [V.ref cd,V.ref b]) hL
    have K3:=gb.of_same D2.there s3
    have D3:=D2.keep K3
    have LM:L∉M2:=fun z=>by
      obtain ⟨o,ho⟩:=D2.there L z
      rw [hL] at ho
      cases ho
    have o3:=out.trans K3.out
    refine fun y dy hy hdy hney=>za (e:=nd) (as:=[cd,b]) D3.there (hdet _) (cz ak LM) (by rw [hkids]; exact .cons (hcd.same o3) (.cons (hnb.same o3) .nil)) (by show 2 < 2000; decide) hy hdy hney fun H4 K4 hny=>?_
    have D4:=D3.keep K4
    obtain ⟨m1,m2,m3,m4,n1,n2,n3,n4⟩:=D4.rM
    refine ⟨lw1,_,_,rfl,rfl,D4.wl,?_,?_⟩
    · rw [List.length_map,List.length_reverse,← Paired.length D4.wn]
      have h0:=hsm.wait
      unfold waitOf at h0 ⊢
      rw [hs,he] at h0
      simp only [bC,List.length_append,List.length_cons] at h0 ⊢
      exact Nat.lt_of_le_of_lt (by omega:_≤1000) (by decide)
    have ho:off M2 (L2.upd H4 lw1 (.lst (ws1.reverse.map V.ref++[V.ref y])))=off M2 H4:=fu m2
    have D5:d9 C R CC (L2.upd H4 lw1 (.lst (ws1.reverse.map V.ref++[V.ref y]))) r M2 c ⟨ms.pos,nd :: x.below,q⟩ dx1 lr1 lw1 lc1 ts1 (y :: ws1) as :=
      D4.Iv (s':=⟨ms.pos,nd :: x.below,q⟩) (fun z _ hz=>au hz) (by rw [ho]; exact az.refl _) rfl rfl (by rw [ak,bz]) (by rw [ho]; exact .cons hny D4.wn)
    have ha5:(L2.upd H4 lw1 (.lst (ws1.reverse.map V.ref++[V.ref y]))) a=some (.ins CC dxa (uR cd (x.start:Nat) (x.middle:Nat) (x.end_:Nat) ((bC (x :: q)).length:Nat) fp)):=by
      rw [au (show a≠lw1 from fun z=>aM (z ▸ m2))]
      exact aO _ _ _ _ (K4.out _ _ (K3.out _ _ (cz ha aM)))
    refine ⟨_,rfl,a,CC,dxa,_,_,rfl,ha5,T.H.cl,T.H.nE,rfl,_,rfl,r,R,dx1,_,rfl,D5.obj,T.R.cl,T.R.nA,by show 4 < 1000; decide,?_⟩
    refine k _ hnine M2 _ ⟨dx1,lr1,lw1,lc1,ts1,y :: ws1,as,D5.LR x.end_⟩ ?_
    show az (off M H) (off M2 (L2.upd _ r _))
    rw [fu m1,ho]
    exact sm2.trans (K3.out.trans K4.out)
end
section
variable {P:Program} {w:World} {K:PySem.W.Frag} {mg:Str→Option Value} {base:Heap}
theorem A_:aN ["self","second","choice"] ["self"] (aD (b7 11)):=⟨rfl,rfl,rfl,by decide +kernel,rfl,by decide +kernel,by decide +kernel⟩
theorem Nh {f C R CC Cn fI:Addr} {fd dI:FuncData} {fN fT fO fFo fPi fNa:Addr} {dN dT dO dFo dPi dNa:FuncData} (F:jA K "end_ifs" "Recovery.end_ifs" (b7 11) f fd) (G:RF P w K mg base C R CC Cn fI dI fN fT fO fFo fPi fNa dN dT dO dFo dPi dNa):aL P w K mg base (bh P w) 5 f fd ["self"] (Ar C R CC Cn):=by
  have T:=G.T
  have X:=G.X
  have NN:=G.N
  refine fV F A_ (fun vs H Q E h=>?_) (fun cdv A outer s H vs Q E hr h=>?_)
  · obtain ⟨_,_,_,_,rfl,_⟩:=h
    rfl
  · obtain ⟨r,M,c,ms,rfl,hrec,chn,hsm,k,kr⟩:=h
    have hr2:bH 2 _:=hr.mono (by omega)
    refine ⟨_,ao (jU pQ (PW.pt (xj (iT (aF (pv 0) rfl) (fun _=>rfl)) (su (aG bI (aF (pv 0) rfl) (aF (bj cD (aF (pv 0) rfl) (gC d_ aA) (fun _ _=>rfl)) rfl) (aK _)))))
      (aj (aW (i:=1) A_.nd rfl (Or.inl rfl) (dU (pv 0) T.R.cl G.tom G.to hr G.tob .nil passes))
      (aj (aW (i:=2) A_.nd rfl (Or.inl rfl) (pR PySem.F.plainAttrs_list PySem.F.slot_list_pop PySem.F.type_list_pop xK (aF (pv 0) rfl)))
      (ao (bf (iU PySem.F.plainAttrs_list PySem.F.slot_list_append PySem.F.type_list_append f9 (aF (pv 0) rfl) (aa (dz NN.mk_ NN.ok hr2 rfl NN.m NN.b .nil passes (aa (bD rfl T.Q.IF) (aa aA (aa (bW (aa (aF (pv 2) rfl) (aa (aF (pv 2) rfl) (aa (pv 1) aq)))) aq)))) aq))))))),?_⟩
    refine ⟨fun m σ H'=>∃ (v1 v2:Option V) (M':List Addr) (s':MS),σ=[some (.ref r),v1,v2]∧m=s'.chs.length∧Rec C R CC H' r M' c s'∧s'.pos=ms.pos∧MX.Chain c s'.pos s'.chs∧Small s'∧MX.settle ms.pos ms.cur ms.chs=MX.settle s'.pos s'.cur s'.chs∧az (off M H) (off M' H'),
      ⟨_,none,none,M,ms,rfl,rfl,hrec,rfl,chn,hsm,rfl,az.refl _⟩,?_⟩
    rintro m σ H' ⟨v1,v2,M',s',rfl,rfl,hrec',hpos,chn',hsm',hset,sm⟩
    obtain ⟨dx,lr,lw,lc,ts,ws,cs,D⟩:=id hrec'
    refine ⟨_,rfl,r,R,dx,_,_,rfl,D.obj,T.R.cl,T.R.nC,rfl,_,.inl ⟨_,bG.of D.cl,rfl⟩,?_⟩
    rcases D.cn.cons_inv with ⟨hs,rfl⟩ | ⟨x,q,a,as,hs,rfl⟩
    · refine aZ (aZ ?_)
      rw [hs] at hset
      have hset:MX.settle ms.pos ms.cur ms.chs=some ⟨s'.pos,s'.cur,[]⟩:=hset
      have:=k _ hset M' H' (by rw [← hs]; exact hrec') sm
      exact this
    have hcl:=D.cl
    rw [bz] at hcl ⊢
    rw [show (!(as.reverse.map V.ref++[V.ref a]).isEmpty)=true by simp]
    have hcn:=D.cn
    rw [hs] at hcn
    cases hcn with
    | @cons _ _ _ dxa cd _ fp g1 g2 g3 g4 =>
      refine cF ⟨_,rfl,r,R,dx,_,_,rfl,D.obj,T.R.cl,T.R.nA,rfl,_,rfl,r,R,dx,_,_,rfl,D.obj,T.R.cl,T.R.nC,rfl,_,rfl,lc,_,_,_,rfl,rfl,bG.of hcl,o5,a,CC,dxa,_,_,rfl,g1,T.H.cl,T.H.nE,rfl,rfl,_,rfl,bO (fun h1=>?_) fun h1=>?_⟩
      · have h1:s'.pos=x.end_:=by
          have:=cZ (of_decide_eq_true h1)
          omega
        have ch:=chn'
        rw [hs] at ch
        obtain ⟨c1,c2,c3,c4,c5,c6⟩:=ch
        obtain ⟨f0,hf⟩:∃ f0,x.first=some f0:=by
          cases hf:x.first with
          | none=>rw [hf] at c2; simp only at c2; omega
          | some f0=>exact ⟨f0,rfl⟩
        have hstep:∀ e,s'.cur=[e]→MX.settle s'.pos s'.cur s'.chs=MX.settle s'.pos (.cond x.cond f0 e :: x.below) q:=fun e he=>by
          rw [hs,he]
          conv=>lhs; unfold MX.settle
          rw [if_pos h1,hf]
        have hnone:(∀ e,s'.cur≠[e])→MX.settle s'.pos s'.cur s'.chs=none:=fun hno=>by
          rw [hs]
          unfold MX.settle
          rw [if_pos h1]
          split
          · rename_i e1 f1 hcur _
            exact absurd hcur (hno e1)
          · rfl
        refine ⟨fun σ' H''=>∃ m',m' < s'.chs.length∧∃ (v1 v2:Option V) (M':List Addr) (s':MS),σ'=[some (.ref r),v1,v2]∧m'=s'.chs.length∧Rec C R CC H'' r M' c s'∧s'.pos=ms.pos∧MX.Chain c s'.pos s'.chs∧Small s'∧MX.settle ms.pos ms.cur ms.chs=MX.settle s'.pos s'.cur s'.chs∧az (off M H) (off M' H''),fun σ' H'' h=>h,?_⟩
        refine ⟨_,rfl,r,dx,_,rfl,D.obj,rfl,r,M',c,s',rfl,hrec',?_,fun hno=>(kr (by rw [hset]; exact hnone hno)).mono sm⟩
        rintro e he b H1 hnb ⟨dx1,lr1,lw1,lc1,ts1,ws1,cs1,D1⟩ sm1
        obtain ⟨ew,el,ecs⟩:lw1=lw∧lc1=lc∧cs1=a :: as:=by
          have e1:=D1.mem
          rw [D.mem] at e1
          injection e1 with _ e1
          injection e1 with e2 e1
          injection e1 with e3 e1
          exact ⟨e2.symm,e3.symm,e1.symm⟩
        subst ew el ecs
        have D1:d9 C R CC H1 r M' c ⟨s'.pos,[],x :: q⟩ dx1 lr1 lw1 lc1 ts1 ws1 (a :: as):=by
          have:=D1
          rw [show ({ s' with cur:=[] }:MS)=⟨s'.pos,[],x :: q⟩ by rw [← hs]] at this
          exact this
        have hcl1:=D1.cl
        rw [bz] at hcl1
        refine ⟨_,rfl,r,R,dx1,_,_,rfl,D1.obj,T.R.cl,T.R.nC,rfl,.inl ⟨rfl,_,bG.of hcl1⟩,lc1,_,_,rfl,rfl,hcl1,ou,?_⟩
        rw [List.dropLast_concat]
        obtain ⟨out,D2,aM,dxa2,cd2,fp2,ha,hcd,hfp⟩:=D1.pop
        rw [hf] at hfp
        obtain ⟨fa,rfl,hfa⟩:=hfp
        generalize hH2:L2.upd H1 lc1 (.lst (as.reverse.map V.ref))=H2 at *
        generalize hM2:(r :: lw1 :: lc1 :: as)=M2 at *
        refine ⟨_,rfl,r,R,dx1,_,_,rfl,D2.obj,T.R.cl,T.R.nW,rfl,.inl ⟨rfl,_,bG.of D2.wl⟩,_,rfl,a,CC,dxa2,_,_,rfl,ha,T.H.cl,T.H.nC,rfl,_,rfl,a,CC,dxa2,_,_,rfl,ha,T.H.cl,T.H.nF,rfl,_,rfl,by show 3≤sizeLine; decide,fun L hL=>?_⟩
        have s3:=az.upd (o:=.lst [V.ref cd2,V.ref fa,V.ref b]) hL
        have K3:=gb.of_same D2.there s3
        have D3:=D2.keep K3
        have LM:L∉M2:=fun z=>by
          obtain ⟨o,ho⟩:=D2.there L z
          rw [hL] at ho
          cases ho
        have o3:=out.trans K3.out
        refine fun y dy hy hdy hney=>za (e:=.cond x.cond f0 e) (as:=[cd2,fa,b]) D3.there rfl (cz ak LM) (.cons (hcd.same o3) (.cons (hfa.same o3) (.cons (hnb.same o3) .nil))) (by show 3 < 2000; decide) hy hdy hney fun H4 K4 hny=>?_
        have D4:=D3.keep K4
        obtain ⟨m1,m2,m3,m4,n1,n2,n3,n4⟩:=D4.rM
        refine ⟨lw1,_,_,rfl,rfl,D4.wl,?_,?_⟩
        · rw [List.length_map,List.length_reverse,← Paired.length D4.wn]
          have h0:=hsm'.wait
          unfold waitOf at h0 ⊢
          rw [hs,he] at h0
          simp only [bC,List.length_append,List.length_cons] at h0 ⊢
          exact Nat.lt_of_le_of_lt (by omega:_≤1000) (by decide)
        have ho:off M2 (L2.upd H4 lw1 (.lst (ws1.reverse.map V.ref++[V.ref y])))=off M2 H4:=fu m2
        have D5:d9 C R CC (L2.upd H4 lw1 (.lst (ws1.reverse.map V.ref++[V.ref y]))) r M2 c ⟨s'.pos,.cond x.cond f0 e :: x.below,q⟩ dx1 lr1 lw1 lc1 ts1 (y :: ws1) as :=
          D4.Iv (s':=⟨s'.pos,.cond x.cond f0 e :: x.below,q⟩) (fun z _ hz=>au hz) (by rw [ho]; exact az.refl _) rfl rfl (by rw [ak,bz]) (by rw [ho]; exact .cons hny D4.wn)
        refine ⟨q.length,by rw [hs,List.length_cons]; omega,_,_,M2,⟨s'.pos,.cond x.cond f0 e :: x.below,q⟩,rfl,rfl,⟨dx1,lr1,lw1,lc1,ts1,y :: ws1,as,D5⟩,hpos,by rw [h1]; exact c6,?_,by rw [hset]; exact hstep e he,?_⟩
        · unfold Small at hsm' ⊢
          rw [hs,he] at hsm'
          simp only [MX.cO,MX.j_,MX.Ri,hf,List.length_cons,Vbdeam.size] at hsm' ⊢
          omega
        · rw [ho]
          exact (sm.trans sm1).trans (o3.trans K4.out)
      · have hne:s'.pos≠x.end_:=fun z=>h1 (decide_eq_true (by rw [z]))
        have hset2:MX.settle ms.pos ms.cur ms.chs=some s':=by
          rw [hset,hs]
          conv=>lhs; unfold MX.settle
          rw [if_neg hne,← hs]
        exact k _ hset2 M' H' hrec' sm
end
theorem sO {n:Nat}:∀ (m:Nat) {l:List Int} {c:Vbdeaa.Code},l.length≤m→Cut n l c→c.length≤l.length
  | 0,l,c,hm,h=>by
    have:l=[]:=List.length_eq_zero_iff.mp (by omega)
    subst this
    have:c=[]:=by
      have:=h.1
      rw [Vbdeaa.codeOf] at this
      cases this
      rfl
    subst this
    exact Nat.le_refl _
  | m+1,l,c,hm,h=>by
    by_cases hl:l=[]
    · subst hl
      exact sO m (Nat.zero_le _) h
    · obtain ⟨i,r,c',h1,_,h3,rfl⟩:=MX.DX hl h
      have h4:=MX.Dv h1
      have h5:=MX.yp i
      have h6:l.length=i.told.length+r.length:=by rw [h4,List.length_append]
      have:=sO m (l:=r) (by omega) h3
      rw [List.length_cons]
      omega
def Ak (C R CC Cn:Addr):Sp:=fun vs H Q E=>∃ (r:Addr) (M:List Addr) (c:Vbdeaa.Code) (s:MS) (n:Nat),vs=[.ref r]∧Rec C R CC H r M c s∧MX.WF c s∧MX.Lj s∧c.length≤900∧s.pos < c.length∧n≤8∧(∀ i∈c,gM n i=true) ∧
  (∀ t,MX.step n c s=some t→∀ M' H',Rec C R CC H' r M' c t→az (off M H) (off M' H')→Q .non H')∧(MX.step n c s=none→bB Cn (-3) (off M H) E)
structure SF (P:Program) (w:World) (K:PySem.W.Frag) (mg:Str→Option Value) (base:Heap) (C R CC Cn:Addr) (f1 f2 f3 f4 f5:Addr) (d1 d2 d3 d4 d5:FuncData):Prop where
  T:RT K mg C R CC
  bg:aL P w K mg base (bh P w) 5 f1 d1 ["self","length"] (Cy C R CC Cn)
  bgm:Meth K R "begin_choice" f1
  bgb:Binds K d1 ["self","length"] []
  go:aL P w K mg base (bh P w) 5 f2 d2 ["self"] (Io C R CC Cn)
  gom:Meth K R "go_on_choice" f2
  gob:Binds K d2 ["self"] []
  ej:aL P w K mg base (bh P w) 5 f3 d3 ["self"] (Ip C R CC Cn)
  ejm:Meth K R "end_joining" f3
  ejb:Binds K d3 ["self"] []
  tp:aL P w K mg base (bh P w) 6 f4 d4 ["self","row"] (tK C R CC Cn)
  tpm:Meth K R "take_plain" f4
  tpb:Binds K d4 ["self","row"] []
  ei:aL P w K mg base (bh P w) 5 f5 d5 ["self"] (Ar C R CC Cn)
  eim:Meth K R "end_ifs" f5
  eib:Binds K d5 ["self"] []
section
variable {P:Program} {w:World} {K:PySem.W.Frag} {mg:Str→Option Value} {base:Heap}
theorem Iz:aN ["self","row"] ["self"] (aD (b7 1)):=⟨rfl,rfl,rfl,by decide +kernel,rfl,by decide +kernel,by decide +kernel⟩
theorem MT {f C R CC Cn f1 f2 f3 f4 f5:Addr} {fd d1 d2 d3 d4 d5:FuncData} (F:jA K "step" "Recovery.step" (b7 1) f fd) (G:SF P w K mg base C R CC Cn f1 f2 f3 f4 f5 d1 d2 d3 d4 d5):aL P w K mg base (bh P w) 7 f fd ["self"] (Ak C R CC Cn):=by
  have T:=G.T
  refine fV F Iz (fun vs H Q E h=>?_) (fun cdv A outer s H vs Q E hr h=>?_)
  · obtain ⟨_,_,_,_,_,rfl,_⟩:=h
    rfl
  · obtain ⟨r,M,c,ms,n,rfl,hrec,wf,hsz,hcl,hpos,hn8,hins,k,kr⟩:=h
    obtain ⟨dx,lr,lw,lc,ts,ws,cs,D⟩:=id hrec
    have hr5:bH 5 _:=hr.mono (by omega)
    refine ⟨_,aj (aW (i:=1) Iz.nd rfl (Or.inl rfl) (bj cD (aF (pv 0) rfl) (aF (pv 0) rfl) (fun _ _=>rfl)))
      (aj (aY (aG bI (bj bL (pv 1) aA (fun _ _=>rfl)) aA (aK _)) (ao (bf (gk (pv 0) T.R.cl G.bgm G.bg hr5 G.bgb .nil passes (aa (bj bL (pv 1) aA (fun _ _=>rfl)) aq))))
        (ao (aY (aG bI (bj bL (pv 1) aA (fun _ _=>rfl)) aA (aK _)) (ao (bf (dU (pv 0) T.R.cl G.gom G.go hr5 G.gob .nil passes)))
          (ao (aY (aG bI (bj bL (pv 1) aA (fun _ _=>rfl)) aA (aK _)) (ao (bf (dU (pv 0) T.R.cl G.ejm G.ej hr5 G.ejb .nil passes)))
            (ao (bf (gk (pv 0) T.R.cl G.tpm G.tp hr G.tpb .nil passes (aa (pv 1) aq)))))))))
      (ao (bf (dU (pv 0) T.R.cl G.eim G.ei hr5 G.eib .nil passes)))),?_⟩
    obtain ⟨i,hi⟩:∃ i,c[ms.pos]?=some i:=⟨_,List.getElem?_eq_getElem hpos⟩
    obtain ⟨t,hat,ht⟩:=D.row hi
    have ht0:=aO _ _ _ _ ht
    have hok:=hins i (List.mem_of_getElem? hi)
    have hsm:Small ms:=by
      unfold Small
      have:MX.cO ms.cur+MX.j_ ms.chs+ms.chs.length≤ms.pos:=hsz
      omega
    refine ⟨_,rfl,r,R,dx,_,_,rfl,D.obj,T.R.cl,T.R.nR,rfl,_,rfl,r,R,dx,_,_,rfl,D.obj,T.R.cl,T.R.nA,rfl,lr,_,_,_,rfl,rfl,bG.of (aO _ _ _ _ D.rows),hat,?_⟩
    have stepEq:MX.step n c ms=(MX.core n c i ms).bind fun u=>MX.settle u.pos u.cur u.chs:=by
      unfold MX.step
      rw [hi]
    have fin:∀ (u:MS) (M1:List Addr) (H1:Hp),MX.core n c i ms=some u→Rec C R CC H1 r M1 c u→az (off M H) (off M1 H1)→Ar C R CC Cn [.ref r] H1 (fun _ H2=>Q .non H2) E:=fun u M1 H1 hu hrec1 sm1=>by
      have hch:=MX.jn wf hi hu
      have hz:=MX.zL wf hsz hu
      have hle:=hch.le
      refine ⟨r,M1,c,u,rfl,hrec1,hch,by unfold Small; omega,fun t2 ht2 M2 H2 hrec2 sm2=>?_,fun hno=>(kr ?_).mono sm1⟩
      · exact k t2 (by rw [stepEq,hu]; exact ht2) M2 H2 hrec2 (sm1.trans sm2)
      · rw [stepEq,hu]
        exact hno
    have none_:MX.core n c i ms=none→bB Cn (-3) (off M H) E:=fun h=>kr (by rw [stepEq,h]; rfl)
    refine ⟨_,rfl,t,_,_,_,rfl,rfl,dY.of ht0,tu i,rfl,_,rfl,?_⟩
    have recObj:∀ {M1:List Addr} {H1:Hp} {u:MS},Rec C R CC H1 r M1 c u→∃ dx1 fs1,H1 r=some (.ins R dx1 fs1)∧fs1.lookup ("end_ifs" : Str)=none:=fun ⟨dx1,lr1,lw1,lc1,ts1,ws1,cs1,D1⟩=>⟨dx1,_,D1.obj,rfl⟩
    cases i with
    | zero m =>
      refine cF ⟨_,rfl,r,dx,_,rfl,D.obj,rfl,_,rfl,t,_,_,_,rfl,rfl,dY.of ht0,at_of (j:=1) rfl rfl,r,M,c,ms,m,rfl,hrec,wf,hsm,fun u hu M1 H1 hrec1 sm1=>?_,fun h=>none_ h⟩
      obtain ⟨dx1,fs1,ho1,hl1⟩:=recObj hrec1
      exact ⟨_,rfl,r,dx1,fs1,rfl,ho1,hl1,fin u M1 H1 hu hrec1 sm1⟩
    | jump m =>
      refine aZ ⟨_,rfl,t,_,_,_,rfl,rfl,dY.of ht0,tu _,rfl,_,rfl,cF ⟨_,rfl,r,dx,_,rfl,D.obj,rfl,r,M,c,ms,rfl,hrec,wf,fun u hu H1 hrec1 sm1=>?_,fun h=>none_ h⟩⟩
      obtain ⟨dx1,fs1,ho1,hl1⟩:=recObj hrec1
      exact ⟨_,rfl,r,dx1,fs1,rfl,ho1,hl1,fin u M H1 hu hrec1 sm1⟩
    | truth =>
      refine aZ ⟨_,rfl,t,_,_,_,rfl,rfl,dY.of ht0,tu _,rfl,_,rfl,aZ ⟨_,rfl,t,_,_,_,rfl,rfl,dY.of ht0,tu _,rfl,_,rfl,cF ⟨_,rfl,r,dx,_,rfl,D.obj,rfl,r,M,c,ms,rfl,hrec,wf,hsm,fun u hu M1 H1 hrec1 sm1=>?_,fun h=>none_ h⟩⟩⟩
      obtain ⟨dx1,fs1,ho1,hl1⟩:=recObj hrec1
      exact ⟨_,rfl,r,dx1,fs1,rfl,ho1,hl1,fin u M1 H1 hu hrec1 sm1⟩
    | _ =>
      refine aZ ⟨_,rfl,t,_,_,_,rfl,rfl,dY.of ht0,tu _,rfl,_,rfl,aZ ⟨_,rfl,t,_,_,_,rfl,rfl,dY.of ht0,tu _,rfl,_,rfl,aZ ⟨_,rfl,r,dx,_,rfl,D.obj,rfl,_,rfl,r,t,M,c,ms,n,_,rfl,hrec,ht,hok,hn8,trivial,hsm,fun st hst H1 hrec1 sm1=>?_,fun h=>none_ (by unfold MX.core; simp only; rw [h]; rfl)⟩⟩⟩
      obtain ⟨dx1,fs1,ho1,hl1⟩:=recObj hrec1
      exact ⟨_,rfl,r,dx1,fs1,rfl,ho1,hl1,fin ⟨ms.pos+1,st,ms.chs⟩ M H1 (by unfold MX.core; simp only; rw [hst]; rfl) hrec1 sm1⟩
end
def tL (K:PySem.W.Frag) (C Cn:Addr):Sp:=fun vs H Q E=>∃ (l:Addr) (n:Nat) (code:List Int),vs=[.ref l,.int n]∧bG K H l (vI code)∧code.length≤500∧n≤8 ∧
  (∀ e,Vbdeam.expOf n code=some e→∀ a H',az H H'→aV C H' e a→Q (.ref a) H')∧(Vbdeam.expOf n code=none→bB Cn (-3) H E)
abbrev nQ:Stmt:=top 70
structure ZF (P:Program) (w:World) (K:PySem.W.Frag) (mg:Str→Option Value) (base:Heap) (C R CC Cn:Addr) (f1 f2 f3 f4:Addr) (d1 d2 d3 d4:FuncData):Prop where
  T:RT K mg C R CC
  inf:Fn K mg "instructions_in" Jg f1 d1 ["code","n"]
  ino:aL P w K mg base (bh P w) 4 f1 d1 ["code","n"] (Im K Cn)
  rmk:Mk K R f2
  ro:aL P w K mg base (bh P w) 1 f2 d2 ["self","rows"] (Ie R)
  rb:Binds K d2 ["self","rows"] []
  rm:mg "Recovery"=some (.ref R)
  st:aL P w K mg base (bh P w) 7 f3 d3 ["self"] (Ak C R CC Cn)
  stm:Meth K R "step" f3
  stb:Binds K d3 ["self"] []
  to:aL P w K mg base (bh P w) 4 f4 d4 ["self"] (jc C R CC Cn)
  tom:Meth K R "take_only" f4
  tob:Binds K d4 ["self"] []
section
variable {P:Program} {w:World} {K:PySem.W.Frag} {mg:Str→Option Value} {base:Heap}
theorem yx:aN ["code","n","recovery"] ["code","n"] (aD nQ):=⟨rfl,rfl,rfl,by decide +kernel,rfl,by decide +kernel,by decide +kernel⟩
theorem Fx {f C R CC Cn f1 f2 f3 f4:Addr} {fd d1 d2 d3 d4:FuncData} (F:Fn K mg "simple_expression_of" nQ f fd ["code","n"]) (G:ZF P w K mg base C R CC Cn f1 f2 f3 f4 d1 d2 d3 d4):aL P w K mg base (bh P w) 8 f fd ["code","n"] (tL K C Cn):=by
  have T:=G.T
  refine fV F.F yx (fun vs H Q E h=>?_) (fun cdv A outer s H vs Q E hr h=>?_)
  · obtain ⟨_,_,_,rfl,_⟩:=h
    rfl
  · obtain ⟨l,n,code,rfl,hl,hlen,hn8,k,kr⟩:=h
    have hr4:bH 4 _:=hr.mono (by omega)
    have hr2:bH 2 _:=hr.mono (by omega)
    refine ⟨_,aj (aW (i:=2) yx.nd rfl (Or.inl rfl) (dz G.rmk G.ro hr2 rfl G.rm G.rb .nil passes (aa (aQ G.ino hr4 rfl G.inf.m G.inf.F.kp G.inf.b .nil passes (aa (pv 0) (aa (pv 1) aq))) aq)))
      (aj (jU pQ (aG jw (aF (pv 2) rfl) (bJ bc (by rfl) T.P.len (by decide +kernel) (aa (aF (pv 2) rfl) aq)) (aK _)) (ao (bf (dU (pv 2) T.R.cl G.stm G.st hr G.stb .nil passes))))
      (ao (aJ (dU (pv 2) T.R.cl G.tom G.to hr4 G.tob .nil passes)))),?_⟩
    refine ⟨_,rfl,_,rfl,l,n,code,rfl,hl,by omega,fun c hc R0 ts H1 hR0 s1 hR1 hts hRts=>?_,fun hno=>kr (MX.BV hno)⟩
    have hcl:c.length≤500:=Nat.le_trans (sO _ (Nat.le_refl _) hc) hlen
    have hexp:=MX.Ha hc
    intro x dxx hx hdx hne
    refine ⟨x,dxx,R0,rfl,ak,fun H2 lw lc sx hlw hlc hwc hw2 hc2 hx2=>⟨rfl,?_⟩⟩
    have nwx:lw≠x:=fun z=>by rw [z,ak] at hlw; cases hlw
    have ncx:lc≠x:=fun z=>by rw [z,ak] at hlc; cases hlc
    have ndw:lw≠dxx:=fun z=>by rw [au nwx,z,ak] at hlw; cases hlw
    have ndc:lc≠dxx:=fun z=>by rw [au ncx,z,ak] at hlc; cases hlc
    rw [au nwx,au ndw] at hlw
    rw [au ncx,au ndc] at hlc
    have out:az H1 (off [x,lw,lc] H2):=fun b o q=>by
      have bx:=aB q hx
      refine cz (sx b o (by rw [au bx,au (aB q hdx)]; exact q) bx) ?_
      simp only [List.mem_cons,List.not_mem_nil,or_false,not_or]
      exact ⟨bx,aB q hlw,aB q hlc⟩
    have D0:d9 C R CC H2 x [x,lw,lc] c ⟨0,[],[]⟩ dxx R0 lw lc ts [] [] :=
      ⟨rfl,by simp only [List.nodup_cons,List.mem_cons,List.not_mem_nil,or_false,not_or,List.nodup_nil,not_false_eq_true,and_true]; exact ⟨⟨Ne.symm nwx,Ne.symm ncx⟩,hwc⟩,hx2,out _ _ hR1,hts.same out,hw2,.nil,hc2,.nil⟩
    refine ⟨fun m σ H'=>∃ (M':List Addr) (s':MS),σ=[some (.ref l),some (.int n),some (.ref x)]∧m=c.length - s'.pos∧Rec C R CC H' x M' c s'∧MX.WF c s'∧MX.Lj s'∧MX.lK n c (c.length+1) s'=Vbdeam.tree n c∧az H (off M' H'),
      ⟨_,[x,lw,lc],⟨0,[],[]⟩,rfl,rfl,⟨_,_,_,_,_,_,_,D0⟩,MX.rR c,MX.yu,MX.Gh,s1.trans out⟩,?_⟩
    rintro m σ H' ⟨M',s',rfl,rfl,hrec,wf,hsz,hrun,sm⟩
    obtain ⟨dx,lr,lw',lc',ts',ws',cs',D⟩:=id hrec
    refine ⟨_,rfl,x,R,dx,_,_,rfl,D.obj,T.R.cl,T.R.nA,rfl,_,rfl,x,R,dx,_,_,rfl,D.obj,T.R.cl,T.R.nR,rfl,lr,_,rfl,.inl (bG.of (aO _ _ _ _ D.rows)),_,_,rfl,rfl,_,rfl,?_⟩
    rw [D.len]
    refine bO (fun h1=>?_) fun h1=>?_
    · have h1:s'.pos < c.length:=by
        have:=of_decide_eq_true h1
        omega
      refine ⟨fun σ' H''=>∃ m',m' < c.length - s'.pos∧∃ (M':List Addr) (s':MS),σ'=[some (.ref l),some (.int n),some (.ref x)]∧m'=c.length - s'.pos∧Rec C R CC H'' x M' c s'∧MX.WF c s'∧MX.Lj s'∧MX.lK n c (c.length+1) s'=Vbdeam.tree n c∧az H (off M' H''),fun σ' H'' h=>h,?_⟩
      refine ⟨_,rfl,x,dx,_,rfl,D.obj,rfl,x,M',c,s',n,rfl,hrec,wf,hsz,by omega,h1,hn8,hc.2,fun t ht M2 H2' hrec2 sm2=>?_,fun hno=>(kr ?_).mono sm⟩
      · obtain ⟨p1,p2,_⟩:=MX.jb wf ht
        refine ⟨c.length - t.pos,by omega,M2,t,rfl,rfl,hrec2,p2,MX.yr wf hsz ht,?_,sm.trans sm2⟩
        rw [← hrun]
        conv=>rhs; unfold MX.lK
        rw [if_pos h1,ht]
        exact MX.qW _ _ t p2 (by omega) (by omega)
      · rw [hexp,← hrun]
        unfold MX.lK
        rw [if_pos h1,hno]
        rfl
    · have h1:¬ s'.pos < c.length:=fun z=>h1 (decide_eq_true (by omega))
      have hon:MX.only s'.cur=Vbdeam.tree n c:=by
        rw [← hrun]
        unfold MX.lK
        rw [if_neg h1]
      refine ⟨_,rfl,x,dx,_,rfl,D.obj,rfl,x,M',c,s',rfl,hrec,fun e he a H3 hna _ sm3=>?_,fun hno=>(kr ?_).mono sm⟩
      · refine k e ?_ a H3 (sm.trans (sm3.trans (aO _ _))) (hna.same (aO _ _))
        rw [hexp,← hon,he]
        rfl
      · rw [hexp,← hon]
        unfold MX.only
        split
        · rename_i e he
          exact absurd he (hno e)
        · rfl
end
end SB
end
section
set_option Elab.async false
set_option maxRecDepth 100000
set_option maxHeartbeats 4000000
set_option linter.all false
namespace SB
open PySem PySem.Spec PyProof.Rows L2 XL
open Vbdeaa (Text Exp Exps Un Bin Ins)
structure CS (K:PySem.W.Frag) (mg:Str→Option Value):Prop where
  MP:GC K mg "MOST_PARAMETERS" (.i 8)
  LC:GC K mg "LONGEST_CODE" (.i 500)
  HI:GC K mg "HIGHEST" (.i 32)
  DE:GC K mg "DEEPEST" (.i 32)
  len:mg "len"=none
def gQ (e:Exp):Prop:=e.height≤32∧cu e≤32
def Ii (Cw:Addr):Sp:=fun vs H Q E=>∃ n:Int,vs=[.int n]∧((0≤n∧n≤8)→Q .non H)∧(¬ (0≤n∧n≤8)→bB Cw (-1) H E)
def Cv (K:PySem.W.Frag) (Cl:Addr):Sp:=fun vs H Q E=>∃ (l:Addr) (xs:List V),vs=[.ref l]∧bG K H l xs∧(xs.length≤500→Q .non H)∧(¬ xs.length≤500→bB Cl (-2) H E)
def rW (C Cd:Addr):Sp:=fun vs H Q E=>∃ (a:Addr) (e:Exp),vs=[.ref a]∧aV C H e a∧(gQ e→∀ H',az H H'→Q .non H')∧(¬ gQ e→bB Cd (-4) H E)
def wN (K:PySem.W.Frag) (C Cl Cn Cd:Addr):Sp:=fun vs H Q E=>∃ (l:Addr) (n:Nat) (code:List Int),vs=[.int n,.ref l]∧bG K H l (vI code)∧n≤8 ∧
  (¬ code.length≤500→bB Cl (-2) H E)∧(code.length≤500→Vbdeam.expOf n code=none→bB Cn (-3) H E) ∧
  (∀ e,code.length≤500→Vbdeam.expOf n code=some e→(¬ gQ e→bB Cd (-4) H E)∧(gQ e→∀ a H',az H H'→aV C H' e a→Q (.ref a) H'))
def Ir:Sp:=fun vs H Q _=>∃ (l:Addr) (xs:List V),vs=[.ref l]∧H l=some (.lst xs)∧xs.length≤1000000∧vG H Q (.int 0 :: .int (xs.length:Nat) :: xs)
abbrev Jb:Stmt:=top 74
abbrev E_:Stmt:=top 75
abbrev pK:Stmt:=top 76
abbrev t8:Stmt:=top 77
abbrev yI:Stmt:=top 78
section
variable {P:Program} {w:World} {K:PySem.W.Frag} {mg:Str→Option Value} {base:Heap}
theorem RZ:aN ["n"] ["n"] (aD Jb):=⟨rfl,rfl,rfl,by decide +kernel,rfl,by decide +kernel,by decide +kernel⟩
theorem QT {f Cw fI:Addr} {fd dI:FuncData} (F:Fn K mg "check_parameters" Jb f fd ["n"]) (X:XC P w K mg base "WrongParameterCount" Cw fI dI (-1)) (S:CS K mg):aL P w K mg base (bh P w) 4 f fd ["n"] (Ii Cw):=by
  refine fV F.F RZ (fun vs H Q E h=>?_) (fun cdv A outer s H vs Q E hr h=>?_)
  · obtain ⟨_,rfl,_⟩:=h
    rfl
  · obtain ⟨n,rfl,k,kr⟩:=h
    refine ⟨_,ao (aY (jh (oh lR lR aA (pv 0) (bD rfl S.MP))) (ao (b_ X.made X.cls X.ok hr rfl X.m X.b rfl bU)) aH),?_⟩
    refine ⟨_,rfl,0,n,rfl,rfl,_,rfl,bO (fun h1=>?_) fun h1=>?_⟩
    · have h1:0≤n:=of_decide_eq_true h1
      refine ⟨n,8,rfl,rfl,_,rfl,?_⟩
      by_cases h2:n≤8
      · rw [decide_eq_true h2]
        exact aZ (k ⟨h1,h2⟩)
      · rw [decide_eq_false h2]
        exact cF (kr fun z=>h2 z.2).go
    · refine ⟨_,rfl,cF ?_⟩
      exact (kr fun z=>h1 (decide_eq_true z.1)).go
theorem R1:aN ["numbers"] ["numbers"] (aD E_):=⟨rfl,rfl,rfl,by decide +kernel,rfl,by decide +kernel,by decide +kernel⟩
theorem QX {f Cl fI:Addr} {fd dI:FuncData} (F:Fn K mg "check_length" E_ f fd ["numbers"]) (X:XC P w K mg base "CodeTooLong" Cl fI dI (-2)) (S:CS K mg):aL P w K mg base (bh P w) 4 f fd ["numbers"] (Cv K Cl):=by
  refine fV F.F R1 (fun vs H Q E h=>?_) (fun cdv A outer s H vs Q E hr h=>?_)
  · obtain ⟨_,_,rfl,_⟩:=h
    rfl
  · obtain ⟨l,xs,rfl,hl,k,kr⟩:=h
    refine ⟨_,ao (aY (aG qT (bJ bc (by rfl) S.len (by decide +kernel) (aa (pv 0) aq)) (bD rfl S.LC) (aK _)) (ao (b_ X.made X.cls X.ok hr rfl X.m X.b rfl bU)) aH),?_⟩
    refine ⟨_,rfl,l,xs,rfl,.inl hl,_,_,rfl,rfl,_,rfl,bO (fun h1=>?_) fun h1=>?_⟩
    · have h1:(500:Int) < xs.length:=of_decide_eq_true h1
      exact (kr (by omega)).go
    · have h1:¬ (500:Int) < xs.length:=fun z=>h1 (decide_eq_true z)
      exact k (by omega)
theorem Mi:aN ["node"] ["node"] (aD pK):=⟨rfl,rfl,rfl,by decide +kernel,rfl,by decide +kernel,by decide +kernel⟩
theorem JT {f C Cd fI fN:Addr} {fd dI dN:FuncData} (F:Fn K mg "check_depth" pK f fd ["node"]) (FN:Fn K mg "nesting_of" yF fN dN ["node"]) (GN:aL P w K mg base (bh P w) 35 fN dN ["node"] (Al C 32)) (N:kE K C) (X:XC P w K mg base "CodeTooDeep" Cd fI dI (-4)) (S:CS K mg):aL P w K mg base (bh P w) 36 f fd ["node"] (rW C Cd):=by
  refine fV F.F Mi (fun vs H Q E h=>?_) (fun cdv A outer s H vs Q E hr h=>?_)
  · obtain ⟨_,_,rfl,_⟩:=h
    rfl
  · obtain ⟨a,e,rfl,hn,k,kr⟩:=h
    obtain ⟨dx,D,l,as,h1,hD,hl,hp⟩:=fD hn
    have hr3:bH 3 _:=hr.mono (by omega)
    refine ⟨_,ao (aY (PW.pt (qQ (aG qT (aF (pv 0) rfl) (bD rfl S.HI) (aK _)) (pM (aG qT (aQ GN hr rfl FN.m FN.F.kp FN.b .nil passes (aa (pv 0) aq)) (bD rfl S.DE) (aK _))))) (ao (b_ X.made X.cls X.ok hr3 rfl X.m X.b rfl bU)) aH),?_⟩
    refine ⟨_,rfl,a,C,dx,_,_,rfl,h1,N.cl,N.nH,rfl,_,_,rfl,rfl,_,rfl,bO (fun h2=>?_) fun h2=>?_⟩
    · have h2:(32:Int) < e.height:=of_decide_eq_true h2
      exact cF (kr fun z=>by have:=z.1; omega).go
    · have h2:¬ (32:Int) < e.height:=fun z=>h2 (decide_eq_true z)
      refine ⟨_,rfl,a,e,rfl,hn,by omega,fun H' s'=>⟨_,_,rfl,rfl,_,rfl,bO (fun h3=>?_) fun h3=>?_⟩⟩
      · have h3:(32:Int) < cu e:=of_decide_eq_true h3
        exact ((kr fun z=>by have:=z.2; omega).mono s').go
      · have h3:¬ (32:Int) < cu e:=fun z=>h3 (decide_eq_true z)
        exact k ⟨by omega,by omega⟩ H' s'
theorem CK:aN ["n","numbers","node"] ["n","numbers"] (aD t8):=⟨rfl,rfl,rfl,by decide +kernel,rfl,by decide +kernel,by decide +kernel⟩
theorem JL {f C Cl Cn Cd f1 f2 f3:Addr} {fd d1 d2 d3:FuncData} (F:Fn K mg "taken_code" t8 f fd ["n","numbers"]) (F1:Fn K mg "check_length" E_ f1 d1 ["numbers"]) (G1:aL P w K mg base (bh P w) 4 f1 d1 ["numbers"] (Cv K Cl)) (F2:Fn K mg "simple_expression_of" nQ f2 d2 ["code","n"]) (G2:aL P w K mg base (bh P w) 8 f2 d2 ["code","n"] (tL K C Cn)) (F3:Fn K mg "check_depth" pK f3 d3 ["node"]) (G3:aL P w K mg base (bh P w) 36 f3 d3 ["node"] (rW C Cd)) :
    aL P w K mg base (bh P w) 37 f fd ["n","numbers"] (wN K C Cl Cn Cd):=by
  refine fV F.F CK (fun vs H Q E h=>?_) (fun cdv A outer s H vs Q E hr h=>?_)
  · obtain ⟨_,_,_,rfl,_⟩:=h
    rfl
  · obtain ⟨l,n,code,rfl,hl,hn8,kl,kn,kk⟩:=h
    have hr4:bH 4 _:=hr.mono (by omega)
    have hr8:bH 8 _:=hr.mono (by omega)
    refine ⟨_,aj (bf (aQ G1 hr4 rfl F1.m F1.F.kp F1.b .nil passes (aa (pv 1) aq)))
      (aj (aW (i:=2) CK.nd rfl (Or.inl rfl) (aQ G2 hr8 rfl F2.m F2.F.kp F2.b .nil passes (aa (pv 1) (aa (pv 0) aq))))
      (aj (bf (aQ G3 hr rfl F3.m F3.F.kp F3.b .nil passes (aa (pv 2) aq))) (ao (aJ (pv 2))))),?_⟩
    refine ⟨_,rfl,l,vI code,rfl,hl,fun hle=>?_,fun hle=>kl (by rw [dg] at hle; exact hle)⟩
    rw [dg] at hle
    refine ⟨_,rfl,_,rfl,l,n,code,rfl,hl,hle,hn8,fun e he a H1 s1 hna=>?_,fun he=>kn hle he⟩
    obtain ⟨kd,kq⟩:=kk e hle he
    refine ⟨_,rfl,a,e,rfl,hna,fun hd H2 s2=>?_,fun hd=>(kd hd).mono s1⟩
    exact ⟨_,rfl,kq hd a H2 (s1.trans s2) (hna.same s2)⟩
theorem Qv:aN ["row"] ["row"] (aD yI):=⟨rfl,rfl,rfl,by decide +kernel,rfl,by decide +kernel,by decide +kernel⟩
theorem Ni {f:Addr} {fd:FuncData} (F:Fn K mg "done" yI f fd ["row"]) (S:CS K mg):aL P w K mg base (bh P w) 1 f fd ["row"] Ir:=by
  refine fV F.F Qv (fun vs H Q E h=>?_) (fun cdv A outer s H vs Q E hr h=>?_)
  · obtain ⟨_,_,rfl,_⟩:=h
    rfl
  · obtain ⟨l,xs,rfl,hl,hlen,k⟩:=h
    refine ⟨_,ao (aJ (cJ Bk (bW (aa aA (aa (bJ bc (by rfl) S.len (by decide +kernel) (aa (pv 0) aq)) aq))) (pv 0))),?_⟩
    refine ⟨_,rfl,l,xs,rfl,.inl (bG.of hl),(by show 2≤sizeLine; decide),fun r hr0=>?_⟩
    have ne:l≠r:=fun z=>by rw [z,hr0] at hl; cases hl
    refine ⟨_,rfl,r,l,_,xs,rfl,rfl,ak,(by rw [au ne]; exact hl),?_,fun r2 hr2=>?_⟩
    · show _≤sizeLine
      have:sizeLine=16777216:=rfl
      simp only [List.length_cons,List.length_nil]
      omega
    · exact k r2 _ (by by_cases z : r2 = r; · rw [z, ak] at hr2; cases hr2
                       · rw [au z] at hr2; exact hr2) ((az.upd hr0).trans (az.upd hr2)) ak
end
theorem bu {e p:Exp} {i:Nat} {acc:Int} {ar need:Nat} (ha:pC eY 1 e.level i=(ar:Nat)) (hp:pC gU 0 e.level i=(need:Nat)) {m:Nat} (hm:cu p=(m:Nat)):a_ e cu acc (p,i)=max acc ((ar+MX.na p.level need m:Nat):Int):=by
  unfold a_ sX MX.na
  simp only
  rw [ha,hp,hm]
  by_cases c:p.level < need
  · rw [if_pos c,decide_eq_true (by omega),if_pos rfl]
    split <;> omega
  · have e1:decide ((p.level:Int) < (need:Int))=false:=decide_eq_false (by omega)
    simp only [e1,Bool.false_eq_true,if_false,if_neg c]
    split <;> omega
theorem kZ (lv m:Nat):MX.na lv 0 m=m:=by unfold MX.na; rw [if_neg (by omega)]
mutual
theorem bY:∀ (e:Exp),MX.i_ e→cu e=(MX.nest e:Nat)
  | .num q,_=>by rw [eN]; rfl
  | .name n,_=>by rw [eN]; rfl
  | .un o a,h=>by
    have ih:=bY a h
    rw [eN]
    show a_ (.un o a) cu 0 (a,0)=_
    cases o with
    | neg=>rw [bu (ar:=1) (need:=7) rfl rfl ih]; show _=((MX.na a.level 7 (MX.nest a)+1:Nat):Int); omega
    | not=>rw [bu (ar:=1) (need:=3) rfl rfl ih]; show _=((MX.na a.level 3 (MX.nest a)+1:Nat):Int); omega
    | _=>rw [bu (ar:=1) (need:=0) rfl rfl ih,kZ]; show _=((MX.nest a+1:Nat):Int); omega
  | .bin o a b,h=>by
    have ih1:=bY a h.1
    have ih2:=bY b h.2
    rw [eN]
    show a_ (.bin o a b) cu (a_ (.bin o a b) cu 0 (a,0)) (b,1)=_
    cases o with
    | pow =>
      rw [bu (ar:=1) (need:=7) rfl rfl ih2,bu (ar:=0) (need:=9) rfl rfl ih1]
      show _=((max (MX.na a.level 9 (MX.nest a)) (MX.na b.level 7 (MX.nest b)+1):Nat):Int)
      omega
    | add =>
      rw [bu (ar:=0) (need:=6) rfl rfl ih2,bu (ar:=0) (need:=5) rfl rfl ih1]
      show _=((max (MX.na a.level 5 (MX.nest a)) (MX.na b.level 6 (MX.nest b)+0):Nat):Int)
      omega
    | sub =>
      rw [bu (ar:=0) (need:=6) rfl rfl ih2,bu (ar:=0) (need:=5) rfl rfl ih1]
      show _=((max (MX.na a.level 5 (MX.nest a)) (MX.na b.level 6 (MX.nest b)+0):Nat):Int)
      omega
    | mul =>
      rw [bu (ar:=0) (need:=7) rfl rfl ih2,bu (ar:=0) (need:=6) rfl rfl ih1]
      show _=((max (MX.na a.level 6 (MX.nest a)) (MX.na b.level 7 (MX.nest b)+0):Nat):Int)
      omega
    | div =>
      rw [bu (ar:=0) (need:=7) rfl rfl ih2,bu (ar:=0) (need:=6) rfl rfl ih1]
      show _=((max (MX.na a.level 6 (MX.nest a)) (MX.na b.level 7 (MX.nest b)+0):Nat):Int)
      omega
    | quo =>
      rw [bu (ar:=0) (need:=7) rfl rfl ih2,bu (ar:=0) (need:=6) rfl rfl ih1]
      show _=((max (MX.na a.level 6 (MX.nest a)) (MX.na b.level 7 (MX.nest b)+0):Nat):Int)
      omega
    | rem =>
      rw [bu (ar:=0) (need:=7) rfl rfl ih2,bu (ar:=0) (need:=6) rfl rfl ih1]
      show _=((max (MX.na a.level 6 (MX.nest a)) (MX.na b.level 7 (MX.nest b)+0):Nat):Int)
      omega
    | _ =>
      rw [bu (ar:=0) (need:=5) rfl rfl ih2,bu (ar:=0) (need:=5) rfl rfl ih1]
      show _=((max (MX.na a.level 5 (MX.nest a)) (MX.na b.level 5 (MX.nest b)+0):Nat):Int)
      omega
  | .and a b,h=>by
    have ih1:=bY a h.1
    have ih2:=bY b h.2
    rw [eN]
    show a_ (.and a b) cu (a_ (.and a b) cu 0 (a,0)) (b,1)=_
    rw [bu (ar:=0) (need:=3) rfl rfl ih2,bu (ar:=0) (need:=2) rfl rfl ih1]
    show _=((max (MX.na a.level 2 (MX.nest a)) (MX.na b.level 3 (MX.nest b)):Nat):Int)
    omega
  | .or a b,h=>by
    have ih1:=bY a h.1
    have ih2:=bY b h.2
    rw [eN]
    show a_ (.or a b) cu (a_ (.or a b) cu 0 (a,0)) (b,1)=_
    rw [bu (ar:=0) (need:=2) rfl rfl ih2,bu (ar:=0) (need:=1) rfl rfl ih1]
    show _=((max (MX.na a.level 1 (MX.nest a)) (MX.na b.level 2 (MX.nest b)):Nat):Int)
    omega
  | .cond c a b,h=>by
    have ih0:=bY c h.1
    have ih1:=bY a h.2.1
    have ih2:=bY b h.2.2
    rw [eN]
    show a_ (.cond c a b) cu (a_ (.cond c a b) cu (a_ (.cond c a b) cu 0 (c,0)) (a,1)) (b,2)=_
    rw [bu (ar:=1) (need:=0) rfl rfl ih2,bu (ar:=1) (need:=0) rfl rfl ih1,bu (ar:=1) (need:=0) rfl rfl ih0,kZ,kZ,kZ]
    show _=((max (MX.nest c) (max (MX.nest a) (MX.nest b))+1:Nat):Int)
    omega
  | .best g l,h=>by
    rw [eN]
    show ((j6 l).zipIdx 0).foldl (a_ (.best g l) cu) 0=((MX.jx l+1:Nat):Int)
    rw [xH l h.1 h.2 (.best g l) rfl 0 0 (by omega)]
    omega
  | .use n l,h=>by
    rw [eN]
    show ((j6 l).zipIdx 0).foldl (a_ (.use n l) cu) 0=((MX.jx l+1:Nat):Int)
    rw [xH l h.2.1 h.2.2 (.use n l) rfl 0 0 (by omega)]
    omega
theorem xH:∀ (l:Exps),MX.yl l→l≠.nil→∀ (e:Exp),e.level=9→∀ (i:Nat) (acc:Int),0≤acc→((j6 l).zipIdx i).foldl (a_ e cu) acc=max acc ((MX.jx l+1:Nat):Int)
  | .nil,_,hne,e,he,i,acc,h0=>absurd rfl hne
  | .cons x .nil,h,_,e,he,i,acc,h0=>by
    have ih1:=bY x h.1
    show a_ e cu acc (x,i)=max acc ((max (MX.nest x) 0+1:Nat):Int)
    rw [bu (ar:=1) (need:=0) (by rw [he]; rfl) (by rw [he]; rfl) ih1,kZ]
    omega
  | .cons x (.cons y s),h,_,e,he,i,acc,h0=>by
    have ih1:=bY x h.1
    show ((j6 (.cons y s)).zipIdx (i+1)).foldl (a_ e cu) (a_ e cu acc (x,i))=max acc ((max (MX.nest x) (MX.jx (.cons y s))+1:Nat):Int)
    rw [bu (ar:=1) (need:=0) (by rw [he]; rfl) (by rw [he]; rfl) ih1,kZ,xH (.cons y s) h.2 (by simp) e he (i+1) _ (by omega)]
    omega
end
theorem lq {n:Nat} {code:List Int} {e:Exp} (hn:n≤8) (h:Vbdeam.expOf n code=some e):MX.i_ e∧Vbdeam.size e≤code.length:=by
  unfold Vbdeam.expOf at h
  obtain ⟨c,hc,ht⟩:=Option.bind_eq_some_iff.mp h
  have hr:=MX.jH.mp ht
  refine ⟨MX.Mm hn (fun k t hk=>(vY hk).2) hr (fun x hx=>by cases hx),Nat.le_trans (MX.Jh hr) ?_⟩
  exact sO _ (Nat.le_refl _) ⟨hc,MX.Ji hr⟩
theorem lC {e:Exp} (h:MX.i_ e):Vbdeam.readable e=true↔gQ e:=by
  rw [MX.xf h]
  unfold gQ
  rw [bY e h]
  refine and_congr Iff.rfl ?_
  omega
theorem same_none {H H':Hp} {l:Addr} (s:az H H') (h:H' l=none):H l=none:=by
  cases q:H l with
  | none=>rfl
  | some o=>rw [s _ _ q] at h; cases h
section
variable {P:Program} {w:World} {K:PySem.W.Frag} {mg:Str→Option Value} {base:Heap}
theorem caught {Rc C:Addr} {n:Int} {H:Hp} {D:Ends} {xs:List V} (hc:qD K C) (hx:PySem.W.exmOne K (.ref C) (.ref Rc)=some true) (hk:vG H D.rt xs) (he:xs=[.int n]):bB C n H (wF K Rc D):=by
  subst he
  intro e d H' s h1 h2
  exact ⟨C,d,n,rfl,rfl,hc,hx,h2,fun l hl=>hk l _ (same_none s hl) (s.trans (az.upd hl)) ak⟩
end
abbrev fdOf (x qual:Str) (st:Stmt) (kV doc pm:Value) (an:Option Addr) (cdv ct:Value):FuncData:=PySem.W.fnOf x qual (lB st) (jl st) (aD st) .none kV doc pm an cdv ct
def aP (x qual:Str) (st:Stmt) (ps:List Str):Prop:=∀ (kV doc pm:Value) (an:Option Addr) (cdv ct:Value) (us:List Value),us.length=ps.length→bindArgs (PySem.W.fnOf x qual (lB st) (jl st) (aD st) .none kV doc pm an cdv ct) ⟨us,[]⟩=pure (ps.zip us)
section
variable {K:PySem.W.Frag} {h:Heap} {mg:Str→Option Value} {x qual:Str} {st:Stmt} {ps:List Str} {f C:Addr} {oc kV doc pm cdv ct:Value} {od an:Option Addr} {osl:Array (Option Value)}
theorem mF (hb:aP x x st ps) (X:K.In h) (G:h.Ns mainGlobals mg) (a:PySem.W.nsIn K mainGlobals x=some (some (.ref f))) (l:K.lookup f=some ⟨oc,od,.func (fdOf x x st kV doc pm an cdv ct),osl⟩) (c:PySem.W.codeIn K cdv x=true) (k:PySem.W.keepIn K (.ref f)=true):∃ f fd,Fn K mg x st f fd ps :=
  have F:=qe l c k
  ⟨f,_,F,PySem.W.mg_of X G a,F.binds hb⟩
theorem Hy (hb:aP x qual st ps) (a:PySem.W.findIn K (.ref C) x=some (some (.ref f))) (i:PySem.W.isFn K (.ref f)=true) (l:K.lookup f=some ⟨oc,od,.func (fdOf x qual st kV doc pm an cdv ct),osl⟩) (c:PySem.W.codeIn K cdv qual=true) (k:PySem.W.keepIn K (.ref f)=true):∃ f fd,Fm K C x qual st f fd ps :=
  have F:=qe l c k
  ⟨f,_,F,F.binds hb,a,i,k⟩
structure O4 (K:PySem.W.Frag) (mg:Str→Option Value) (x qual:Str) (st:Stmt) (ps:List Str) (C f:Addr) (fd:FuncData):Prop where
  cl:Ed K C
  m:mg x=some (.ref C)
  mk_:Mk K C f
  F:jA K "__init__" qual st f fd
  b:Binds K fd ps []
theorem Uv (hb:aP "__init__" qual st ps) (X:K.In h) (G:h.Ns mainGlobals mg) (aC:PySem.W.nsIn K mainGlobals x=some (some (.ref C))) (pg:PySem.W.plainGet K C Str.empty=true) (hd:PySem.W.hasDictIn K C=true) (po:PySem.W.plainOver K C=true) (sa:PySem.W.findIn K (.ref C) "__setattr__"=some (some (.builtin "object.__setattr__")))
    (mk:PySem.W.makesIn K C=true) (kc:PySem.W.keepIn K (.ref C)=true) (a:PySem.W.findIn K (.ref C) "__init__"=some (some (.ref f))) (i:PySem.W.isFn K (.ref f)=true) (l:K.lookup f=some ⟨oc,od,.func (fdOf "__init__" qual st kV doc pm an cdv ct),osl⟩) (c:PySem.W.codeIn K cdv qual=true) (k:PySem.W.keepIn K (.ref f)=true) :
    ∃ f fd,O4 K mg x qual st ps C f fd :=
  have F:=qe l c k
  ⟨f,_,⟨pg,hd,po,sa⟩,PySem.W.mg_of X G aC,⟨mk,a,i,kc⟩,F,F.binds hb⟩
theorem RG {nm q:Str} {N:Addr} {bs bm:List Value} {hdct:Bool} {sn:List Str} {sub:List Value} {ab:Bool} {col:Option Bool} {dd:Option Addr} {k0 k1 k2 k3 k5:Option Value} (lk:K.lookup C=some (excClassObj nm q C N bs bm hdct sn sub ab col dd k0 k1 k2 k3 k5 "Exception.__new__")) (e1:bm.contains (.type "Exception")=true) (e2:bm.contains (.type "AttributeError")=false) (e3:bm.contains (.type "NameError")=false) (e4:bm.contains (.type "BaseException")=true) :
    ∃ nm q N bs bm hdct sn sub ab col dd k0 k1 k2 k3 k5,K.lookup C=some (excClassObj nm q C N bs bm hdct sn sub ab col dd k0 k1 k2 k3 k5 "Exception.__new__")∧bm.contains (.type "Exception")=true∧bm.contains (.type "AttributeError")=false∧bm.contains (.type "NameError")=false∧bm.contains (.type "BaseException")=true :=
  ⟨_,_,_,_,_,_,_,_,_,_,_,_,_,_,_,_,lk,e1,e2,e3,e4⟩
structure Ci (K:PySem.W.Frag) (mg:Str→Option Value) (x qual:Str) (st:Stmt) (Rc C f:Addr) (fd:FuncData):Prop where
  made:Uz K C f
  cls:qD K C
  m:mg x=some (.ref C)
  F:jA K "__init__" qual st f fd
  b:Binds K fd ["self"] []
  ex:PySem.W.exmOne K (.ref C) (.ref Rc)=some true
theorem RK {Rc:Addr} (hb:aP "__init__" qual st ["self"]) (X:K.In h) (G:h.Ns mainGlobals mg) (aC:PySem.W.nsIn K mainGlobals x=some (some (.ref C)))
    (cls:∃ nm q N bs bm hdct sn sub ab col dd k0 k1 k2 k3 k5,K.lookup C=some (excClassObj nm q C N bs bm hdct sn sub ab col dd k0 k1 k2 k3 k5 "Exception.__new__")∧bm.contains (.type "Exception")=true∧bm.contains (.type "AttributeError")=false∧bm.contains (.type "NameError")=false∧bm.contains (.type "BaseException")=true)
    (kc:PySem.W.keepIn K (.ref C)=true) (a:PySem.W.findIn K (.ref C) "__init__"=some (some (.ref f))) (i:PySem.W.isFn K (.ref f)=true) (l:K.lookup f=some ⟨oc,od,.func (fdOf "__init__" qual st kV doc pm an cdv ct),osl⟩) (c:PySem.W.codeIn K cdv qual=true) (k:PySem.W.keepIn K (.ref f)=true)
    (over:iy K C=true) (sa:PySem.W.findIn K (.ref C) "__setattr__"=some (some (.builtin "object.__setattr__"))) (tk:PySem.W.takerIn K C "number"=some none) (hd:PySem.W.hasDictIn K C=true) (ga:PySem.W.findIn K (.ref C) "__getattribute__"=some (some (.builtin "BaseException.__getattribute__"))) (gh:PySem.W.findIn K (.ref C) "__getattr__"=some none) (nn:PySem.W.findIn K (.ref C) "number"=some none)
    (ex:PySem.W.exmOne K (.ref C) (.ref Rc)=some true):∃ C f fd,Ci K mg x qual st Rc C f fd :=
  have F:=qe l c k
  ⟨C,f,_,⟨cls,a,i,kc⟩,⟨over,sa,tk,hd,ga,gh,nn⟩,PySem.W.mg_of X G aC,F,F.binds hb,ex⟩
end
def isAbsent (K:PySem.W.Frag) (x:Str):Bool:=match PySem.W.nsIn K mainGlobals x with
  | some none=>true
  | _=>false
def DK (H:Str→Int):List (Str×Int)→List DictEntry→Prop
  | [],[]=>True
  | p :: r,e :: s=>(∃ t t',e.key=.str p.1 t∧e.val=.int p.2 t')∧e.hash=H p.1∧DK H r s
  | _,_=>False
theorem DG {H:Str→Int}:∀ {l:List (Str×Int)} {es:List DictEntry},DK H l es→es.length=l.length
  | [],[],_=>rfl
  | p :: r,e :: s,h=>by simp only [List.length_cons]; rw [DG h.2.2]
  | [],e :: s,h=>h.elim
  | p :: r,[],h=>h.elim
theorem zG {P:Program} {w:World}:∀ {l:List (Str×Int)} {es:List DictEntry},DK (hashStr w) l es→∃ vs:List (Key×Value),KV (l.map fun p=>(Sum.inr p.1,V.int p.2)) vs∧Pairs (cY P w) es vs∧vs.map (·.1)=l.map (fun p=>(Sum.inr p.1:Key))∧∀ e∈es,∃ k,(cY P w).is k e.key=true∧e.hash=(cY P w).hash k
  | [],[],_=>⟨[],.nil,.nil,rfl,fun e h=>by cases h⟩
  | p :: r,e :: s,h=>by
    obtain ⟨vs,h1,h2,h3,h4⟩:=zG (P:=P) h.2.2
    obtain ⟨t,t',hk,hv⟩:=h.1
    refine ⟨(Sum.inr p.1,e.val) :: vs,.cons ⟨rfl,by rw [hv]; exact ⟨t',rfl⟩⟩ h1,.cons (by show (cY P w).is (Sum.inr p.1) e.key=true; rw [hk]; exact jZ P w _ t) rfl h2,by rw [List.map_cons,List.map_cons,h3],fun e' he'=>?_⟩
    rcases List.mem_cons.mp he' with rfl | he'
    · exact ⟨Sum.inr p.1,by rw [hk]; exact jZ P w _ t,h.2.1⟩
    · exact h4 e' he'
  | [],e :: s,h=>h.elim
  | p :: r,[],h=>h.elim
theorem zW:(ALONE.map fun p=>(Sum.inr p.1:Key)).Nodup:=by decide +kernel
theorem kdx {K:PySem.W.Frag} {w:World} {h:Heap} {mg:Str→Option Value} {d:Addr} {es:List DictEntry} {ep:Nat} (X:K.In h) (G:h.Ns mainGlobals mg) (a:PySem.W.nsIn K mainGlobals "READ_ALONE"=some (some (.ref d))) (l:K.lookup d=some ⟨.type "dict",none,.dict es.toArray ep,#[]⟩) (hs:(d==sysModules)=false) (he:DK (hashStr w) ALONE es) :
    ∃ d,mg "READ_ALONE"=some (.ref d)∧KDict K w d iB:=by
  refine ⟨d,PySem.W.mg_of X G a,hs,fun P=>?_⟩
  obtain ⟨vs,h1,h2,h3,h4⟩:=zG (P:=P) he
  refine ⟨_,es.toArray,ep,vs,l,⟨rfl,rfl,rfl⟩,rfl,?_,h1,fun e hem=>h4 e (by simpa using hem),by simpa using h2,by rw [h3]; exact zW⟩
  rw [List.size_toArray,DG he]
  unfold iB
  rw [List.length_map]
end SB
end
end
section
set_option Elab.async false
set_option maxRecDepth 100000
set_option maxHeartbeats 4000000
set_option linter.all false
namespace SB
open PySem PySem.Spec PyProof.Rows L2 XL
open Vbdeaa (Text Exp Exps Un Bin Ins)
theorem KDict.of {X:Cx} {pins:List (Addr×Obj)} {σ:L2.St} {H:Hp} {s:Shared} {d:Addr} {kvs:List (Key×V)} (D:KDict X.K X.w d kvs) (I:Inv X pins σ H s):∃ vs,KV kvs vs∧s.heap.DictOf (cY X.prog X.w) d vs:=by
  obtain ⟨o,es,ep,vs,h1,h2,h3,h4,h5,h6,h7,h8⟩:=D.ex X.prog
  exact ⟨vs,h5,o,es,ep,I.mD _ _ h1,h2,h3,h6,h7,h8⟩
def TY (kvs:List (Key×V)) (ty:TE):TE:=fun σ H Q=>ty σ H fun y H1=>∃ k,y=kV k∧Q (.bl (u6 kvs k).isSome) H1
def TX (kvs:List (Key×V)) (ty:TE):TE:=fun σ H Q=>ty σ H fun y H1=>∃ k v,y=kV k∧u6 kvs k=some v∧Q v H1
theorem QK {X:Cx} {x:Str} {i:Expr} {p:Pos} {d:Addr} {kvs:List (Key×V)} {ty:TE} (hg:Gl X x) (hm:X.mg x=some (.ref d)) (KD:KDict X.K X.w d kvs) (hi:PE X i ty) (hdb:(x==("__debug__" : Str))=false:=by decide):PC X .In i (.Name x p) (TY kvs ty):=by
  intro pins s σ H Q I h
  refine cP (hi pins s σ H _ I h) fun iv s1 ⟨y,H1,I1,ry,k,ek,q⟩=>cP (dD (v:=.ref d) hg hm rfl hdb pins s1 σ H1 (fun v H2=>v=.ref d∧H2=H1) I1 ⟨rfl,rfl⟩) fun u s2 ⟨v,H2,I2,rv,e1,e2⟩=>?_
  subst ek e1 e2
  obtain rfl:u=Value.ref d:=rv
  obtain ⟨vs,rel,dd⟩:=KD.of I2
  refine wpAny_in_of (Pn ry) KD.ns dd.mapOf ?_
  rw [← (rel.val k).Gv]
  exact ⟨.bl _,H2,I2.tok _,rfl,q⟩
theorem QJ {X:Cx} {x:Str} {i:Expr} {p pos:Pos} {d:Addr} {kvs:List (Key×V)} {ty:TE} (hg:Gl X x) (hm:X.mg x=some (.ref d)) (KD:KDict X.K X.w d kvs) (hi:PE X i ty) (hs:S6 i) (hdb:(x==("__debug__" : Str))=false:=by decide):PE X (.Subscript (.Name x p) i pos) (TX kvs ty):=by
  intro pins s σ H Q I h
  refine Lx PySem.F.slot_dict_getitem.lookup hs (cP (dD (v:=.ref d) hg hm rfl hdb pins s σ H (fun v H2=>v=.ref d∧H2=H) I ⟨rfl,rfl⟩) fun u s1 ⟨v,H1,I1,rv,e1,e2⟩=>?_)
  subst e1 e2
  obtain rfl:u=Value.ref d:=rv
  refine cP (hi pins s1 σ H1 _ I1 h) fun iv s2 ⟨y,H2,I2,ry,k,v,ek,hv,q⟩=>?_
  subst ek
  obtain ⟨vs,rel,dd⟩:=KD.of I2
  obtain ⟨w',hw,rw'⟩:=mV.some_of (v:=v) (o:=valueAt vs k) (by rw [← hv]; exact rel.val k)
  exact ⟨dd.typeIs,wpAny_getItem_of (Pn ry) dd.mapOf hw ⟨v,H2,I2.tok _,rw',q⟩⟩
def zZ (a h t:Str):Str:=Og a (some (h.length:Nat)) (some ((a.length:Nat) - (t.length:Nat)))
def O6 (a h t:Str):Bool:=Txt.startswith a h && Txt.endswith a t
def iD (a h t:Str) (c:Int):Int:=if O6 a h t=true then (if Txt.isdigit (zZ a h t)=true then (match PySem.intText? (zZ a h t) with
  | none=>-1
  | some m=>if iG m=zZ a h t then (if c≤m then -1 else m) else -1) else -1) else -1
def PX (a h t:Str):Bool:=decide (a.length≤100) && (decide (h.length≤100) && (decide (t.length≤100) && (!(O6 a h t && Txt.isdigit (zZ a h t)) || (match PySem.intText? (zZ a h t) with
  | none=>false
  | some m=>decide (m.natAbs < 2 ^ 1900)))))
def jO:Sp:=fun vs H Q _=>∃ (a h t:Str) (c:Int),vs=[.str a,.str h,.str t,.int c]∧PX a h t=true∧Q (.int (iD a h t c)) H
abbrev jf:Stmt:=top 38
section
variable {P:Program} {w:World} {K:PySem.W.Frag} {mg:Str→Option Value} {base:Heap}
theorem tX:aN ["name","head","tail","count","digits","number"] ["name","head","tail","count"] (aD jf):=⟨rfl,rfl,rfl,by decide +kernel,rfl,by decide +kernel,by decide +kernel⟩
theorem Fv {f:Addr} {fd:FuncData} (F:Fn K mg "number_within" jf f fd ["name","head","tail","count"]) (hlen:mg "len"=none) (hint:mg "int"=none) (hstr:mg "str"=none):aL P w K mg base (bh P w) 1 f fd ["name","head","tail","count"] jO:=by
  refine fV F.F tX (fun vs H Q E h=>?_) (fun cdv A outer s H vs Q E hr h=>?_)
  · obtain ⟨_,_,_,_,rfl,_⟩:=h
    rfl
  · obtain ⟨a,h,t,c,rfl,hg,k⟩:=h
    unfold PX at hg
    simp only [Bool.and_eq_true,decide_eq_true_eq] at hg
    obtain ⟨g1,g2,g3,g4⟩:=hg
    refine ⟨_,aj (aY (PW.pt (qQ (jh (my (iU PySem.F.plainAttrs_str PySem.F.slot_str_startswith PySem.F.type_str_startswith vo (pv 0) (aa (pv 1) aq)))) (pM (jh (my (iU PySem.F.plainAttrs_str PySem.F.slot_str_endswith PySem.F.type_str_endswith y_ (pv 0) (aa (pv 2) aq))))))) (ao (aJ (gC d_ aA))) aH)
      (aj (aW (i:=4) tX.nd rfl (Or.inl rfl) (oE Qo (pv 0) (kO (bJ jo (by rfl) hlen (by decide +kernel) (aa (pv 1) aq))) (kO (cJ iH (bJ jo (by rfl) hlen (by decide +kernel) (aa (pv 0) aq)) (bJ jo (by rfl) hlen (by decide +kernel) (aa (pv 2) aq))))))
      (aj (aY (jh (my (pR PySem.F.plainAttrs_str PySem.F.slot_str_isdigit PySem.F.type_str_isdigit Bq (pv 4)))) (ao (aJ (gC d_ aA))) aH)
      (aj (aW (i:=5) tX.nd rfl (Or.inl rfl) (fc xX (by rfl) hint (by decide +kernel) (aa (pv 4) aq)))
      (aj (aY (PW.pt (qQ (aG ut (fc fU (by rfl) hstr (by decide +kernel) (aa (pv 5) aq)) (pv 4) (aK _)) (pM (aG uv (pv 5) (pv 3) (aK _))))) (ao (aJ (gC d_ aA))) aH)
      (ao (aJ (pv 5))))))),?_⟩
    have out:iD a h t c=-1→Q (.int (-1)) H:=fun e=>by rw [← e]; exact k
    have hsz:(1000:Nat)≤sizeLine:=by decide
    refine ⟨_,rfl,rfl,_,rfl,a,h,rfl,rfl,Txt.startswith a h,rfl,?_⟩
    cases e1:Txt.startswith a h with
    | false=>exact cF (cF ⟨1,rfl,out (by unfold iD O6; rw [e1]; rfl)⟩)
    | true =>
      refine aZ ⟨_,rfl,rfl,_,rfl,a,t,rfl,rfl,Txt.endswith a t,rfl,?_⟩
      cases e2:Txt.endswith a t with
      | false=>exact cF ⟨1,rfl,out (by unfold iD O6; rw [e1,e2]; rfl)⟩
      | true =>
        have eb:O6 a h t=true:=by unfold O6; rw [e1,e2]; rfl
        refine aZ ⟨_,rfl,_,rfl,h,rfl,by omega,_,rfl,_,rfl,a,rfl,by omega,_,rfl,t,rfl,by omega,_,_,rfl,rfl,_,rfl,a,rfl,by omega,?_⟩
        refine ⟨_,rfl,rfl,_,rfl,rfl,trivial,Txt.isdigit (zZ a h t),rfl,?_⟩
        cases e3:Txt.isdigit (zZ a h t) with
        | false=>exact cF ⟨1,rfl,out (by unfold iD; rw [eb,e3]; rfl)⟩
        | true =>
          rw [eb,e3] at g4
          obtain ⟨m,hm,hmb⟩:∃ m,PySem.intText? (zZ a h t)=some m∧m.natAbs < 2 ^ 1900:=by
            cases hq:PySem.intText? (zZ a h t) with
            | none=>rw [hq] at g4; cases g4
            | some m=>rw [hq] at g4; exact ⟨m,rfl,of_decide_eq_true g4⟩
          have hdl:(zZ a h t).length≤100:=Nat.le_trans (rF _ _ _) g1
          have ev:iD a h t c=if iG m=zZ a h t then (if c≤m then -1 else m) else -1:=by
            unfold iD
            rw [if_pos eb,if_pos e3,hm]
          have hlg:m.natAbs.log2 < 1920:=by
            by_cases z:m.natAbs=0
            · rw [z]; decide
            · exact Nat.lt_trans ((Nat.log2_lt z).mpr hmb) (by decide)
          refine aZ ⟨_,rfl,_,m,rfl,hm,Nat.le_trans hdl (by decide),?_⟩
          refine ⟨_,rfl,m,rfl,hlg,_,rfl,rfl,_,rfl,?_⟩
          refine bO (fun h1=>?_) fun h1=>?_
          · refine cF ⟨1,rfl,out ?_⟩
            rw [ev,if_neg]
            intro z
            have h1:(!decide (V.str (iG m)=V.str (zZ a h t)))=true:=h1
            rw [z,decide_eq_true rfl] at h1
            cases h1
          · have hz:iG m=zZ a h t:=by
              apply Classical.byContradiction
              intro z
              have h1:¬ (!decide (V.str (iG m)=V.str (zZ a h t)))=true:=h1
              exact h1 (by rw [decide_eq_false (fun y=>z (V.str.inj y))]; rfl)
            refine ⟨_,rfl,_,rfl,_,_,rfl,rfl,_,rfl,bO (fun h2=>?_) fun h2=>?_⟩
            · have h2:c≤m:=of_decide_eq_true h2
              exact ⟨1,rfl,out (by rw [ev,if_pos hz,if_pos h2])⟩
            · have h2:¬ c≤m:=fun z=>h2 (decide_eq_true z)
              refine ⟨_,rfl,?_⟩
              rw [ev,if_pos hz,if_neg h2] at k
              exact k
end
def O_ (a:Str) (r:Str×Str×Int×Int):Bool:=decide (0≤iD a r.1 r.2.1 r.2.2.2)
def oG (a:Str):Int:=match ALONE.find? (fun p=>decide (p.1=a)) with
  | some p=>p.2
  | none=>match ROWS.find? (O_ a) with
    | some r=>r.2.2.1+iD a r.1 r.2.1 r.2.2.2
    | none=>-1
def Sg (a:Str):Bool:=ROWS.all fun r=>PX a r.1 r.2.1
theorem vK (a:Str):u6 iB (Sum.inr a)=(ALONE.find? (fun p=>decide (p.1=a))).map fun p=>V.int p.2:=by
  unfold u6 iB
  rw [List.find?_map,Option.map_map]
  have:((fun kv:Key×V=>decide (kv.1=Sum.inr a)) ∘ fun p:Str×Int=>((Sum.inr p.1:Key),V.int p.2))=fun p=>decide (p.1=a):=by
    funext p
    show decide ((Sum.inr p.1:Key)=Sum.inr a)=decide (p.1=a)
    exact Kc _ _
  rw [this]
  rfl
def Ik:Sp:=fun vs H Q _=>∃ a:Str,vs=[.str a]∧Sg a=true∧Q (.int (oG a)) H
abbrev Jd:Stmt:=top 39
section
variable {P:Program} {w:World} {K:PySem.W.Frag} {mg:Str→Option Value} {base:Heap}
theorem vQ:aN ["name","head","tail","first","count","number"] ["name"] (aD Jd):=⟨rfl,rfl,rfl,by decide +kernel,rfl,by decide +kernel,by decide +kernel⟩
theorem QW {f fW:Addr} {fd dW:FuncData} (F:Fn K mg "number_of_read" Jd f fd ["name"]) (T:CM K w mg) (FW:Fn K mg "number_within" jf fW dW ["name","head","tail","count"]) (GW:aL P w K mg base (bh P w) 1 fW dW ["name","head","tail","count"] jO):aL P w K mg base (bh P w) 2 f fd ["name"] Ik:=by
  obtain ⟨d,hd,KD⟩:=T.RA
  obtain ⟨ur,vr,hr1,rr,hcr⟩:=T.RR
  obtain ⟨ra,rxs,rfl,hsq,hprs⟩:=hcr.tup
  refine fV F.F vQ (fun vs H Q E h=>?_) (fun cdv A outer s H vs Q E hr h=>?_)
  · obtain ⟨_,rfl,_⟩:=h
    rfl
  · obtain ⟨a,rfl,hg,k⟩:=h
    refine ⟨_,aj (aY (xm (QK rfl hd KD (pv 0))) (ao (aJ (QJ rfl hd KD (pv 0) (fun _ _=>rfl)))) aH)
      (aj (jV pQ rfl (Jx (dD rfl hr1 rr)) (um rfl (cQ (bQ (i:=1) vQ.nd rfl (Or.inl rfl)) (cQ (bQ (i:=2) vQ.nd rfl (Or.inl rfl)) (cQ (bQ (i:=3) vQ.nd rfl (Or.inl rfl)) (cQ (bQ (i:=4) vQ.nd rfl (Or.inl rfl)) oA)))))
        (aj (aW (i:=5) vQ.nd rfl (Or.inl rfl) (aQ GW hr rfl FW.m FW.F.kp FW.b .nil passes (aa (pv 0) (aa (pv 1) (aa (pv 2) (aa (pv 4) aq))))))
          (ao (aY (aG uv (pv 5) aA (aK _)) (ao (aJ (cJ gA (pv 3) (pv 5)))) aH))))
      (ao (aJ (gC d_ aA)))),?_⟩
    refine ⟨_,rfl,Sum.inr a,rfl,_,rfl,?_⟩
    rw [vK]
    cases hal:ALONE.find? (fun p=>decide (p.1=a)) with
    | some p =>
      have ev:oG a=p.2:=by unfold oG; rw [hal]
      refine cF ⟨_,rfl,Sum.inr a,.int p.2,rfl,by rw [vK,hal]; rfl,?_⟩
      rw [ev] at k
      exact k
    | none =>
      refine aZ ⟨ra,rfl,⟨_,hsq H⟩,Dz (K:=K) (a:=ra) (xs:=rxs) (fun i σ H'=>∃ w1 w2 w3 w4 w5:Option V,σ=[some (.str a),w1,w2,w3,w4,w5]∧H'=H∧(ROWS.take i).find? (O_ a)=none) ⟨none,none,none,none,none,rfl,rfl,rfl⟩ (fun i σ H' _ _=>hsq H') ?_ ?_⟩
      · rintro i x σ H' hi ⟨w1,w2,w3,w4,w5,rfl,rfl,hm⟩
        have hlen:rxs.length=ROWS.length:=by
          have:=Paired.length hprs
          rw [List.length_map] at this
          exact this.symm
        have il:i < rxs.length:=(List.getElem?_eq_some_iff.mp hi).1
        obtain ⟨r,hr'⟩:∃ r,ROWS[i]?=some r:=⟨_,List.getElem?_eq_getElem (by rw [hlen] at il; exact il)⟩
        obtain ⟨y,hy,hc⟩:=cM hprs (i:=i) (a:=C_ r) (by rw [List.getElem?_map,hr']; rfl)
        rw [hi] at hy
        cases hy
        obtain ⟨a2,ys,rfl,hs2,hp2⟩:=qG.tup hc
        have ey:ys=[V.str r.1,V.str r.2.1,V.int r.2.2.1,V.int r.2.2.2]:=by
          cases hp2 with
          | cons a b=>cases b with
            | cons c d=>cases d with
              | cons e f=>cases f with
                | cons g h' =>
                  cases h'
                  rw [qG.str a,qG.str c,qG.int e,qG.int g]
        subst ey
        have hgr:PX a r.1 r.2.1=true:=List.all_eq_true.mp hg r (List.mem_of_getElem? hr')
        refine ⟨a2,_,rfl,hs2 _,rfl,_,_,rfl,_,_,rfl,_,_,rfl,_,_,rfl,rfl,?_⟩
        refine ⟨_,rfl,_,rfl,_,rfl,_,rfl,a,r.1,r.2.1,r.2.2.2,rfl,hgr,?_⟩
        refine ⟨_,rfl,_,_,rfl,rfl,_,rfl,bO (fun h1=>?_) fun h1=>?_⟩
        · have h1:0≤iD a r.1 r.2.1 r.2.2.2:=of_decide_eq_true h1
          have ev:oG a=r.2.2.1+iD a r.1 r.2.1 r.2.2.2:=by
            unfold oG
            rw [hal,fM hr' hm (decide_eq_true h1)]
          rw [ev] at k
          exact ⟨_,rfl,_,rfl,_,_,rfl,rfl,k⟩
        · exact ⟨_,_,_,_,_,rfl,rfl,fQ hr' hm (decide_eq_false fun z=>h1 (decide_eq_true z))⟩
      · rintro σ H1 ⟨w1,w2,w3,w4,w5,rfl,rfl,hm⟩
        have hlen:rxs.length=ROWS.length:=by
          have:=Paired.length hprs
          rw [List.length_map] at this
          exact this.symm
        rw [hlen,List.take_length] at hm
        have ev:oG a=-1:=by unfold oG; rw [hal,hm]
        rw [ev] at k
        exact ⟨1,rfl,k⟩
end
abbrev wY:Stmt:=inClass (top 30) 0
def RB (H:Hp) (Q:VK) (row:List Int):Prop:=∀ t H',H t=none→az H H'→H' t=some (.tup (vI row))→Q (.ref t) H'
def lW (n:Int) (a:Str):Option (List Int) :=
  if 0≤iD a "a" "" n then some [1,iD a "a" "" n] else if 0≤iD a "g" "" 64 then some [8,iD a "g" "" 64,0] else if 0≤oG a then some [2,oG a] else none
def gn (n:Int) (a:Str):Option (List Int) :=
  if 0≤iD a "g" "" 64∧n≤8 then some [8,iD a "g" "" 64,n] else if 0≤iD a "t" "" 64∧n=1 then some [7,iD a "t" "" 64] else none
def iu (a:Str):Bool:=PX a "a" "" && (PX a "g" "" && (PX a "t" "" && Sg a))
def Av (Cx:Addr):Sp:=fun vs H Q E=>∃ (a:Str) (n:Int),vs=[.str a,.int n]∧iu a=true∧(∀ row,lW n a=some row→RB H Q row)∧(lW n a=none→bB Cx (-8) H E)
def tR (Cx:Addr):Sp:=fun vs H Q E=>∃ (a:Str) (n:Int),vs=[.str a,.int n]∧iu a=true∧(∀ row,gn n a=some row→RB H Q row)∧(gn n a=none→bB Cx (-8) H E)
abbrev yK:Stmt:=top 41
abbrev nY:Stmt:=top 42
section
variable {P:Program} {w:World} {K:PySem.W.Frag} {mg:Str→Option Value} {base:Heap}
theorem Iw:aN ["self"] ["self"] (aD wY):=⟨rfl,rfl,rfl,by decide +kernel,rfl,by decide +kernel,by decide +kernel⟩
theorem JH {f fR R:Addr} {fd fdR:FuncData} (F:jA K "__init__" "WrongName.__init__" wY f fd) (FR:jA K "__init__" "Refusal.__init__" vm fR fdR) (bR:Binds K fdR ["self","number"] []) (hR:mg "Refusal"=some (.ref R)) (CR:iC K R "__init__" fR) (hex:mg "Exception"=none):aL P w K mg base (bh P w) 2 f fd ["self"] (LK K (-8)):=by
  have GR:aL P w K mg base (bh P w) 1 fR fdR _ _:=pU FR hex
  refine fV F Iw (fun vs H Q E h=>?_) (fun cdv A outer s H vs Q E hr h=>?_)
  · obtain ⟨_,_,rfl,_⟩:=h
    rfl
  · obtain ⟨x,C,rfl,hx,hc,k⟩:=h
    refine ⟨_,ao (bf (kW (dD rfl hR rfl) CR GR hr bR .nil passes (aa (pv 0) (aa (gC d_ aA) aq)))),?_⟩
    exact ⟨_,rfl,_,rfl,x,C,-8,rfl,hx,hc,k⟩
theorem kY {H:Hp} {Q:VK} {row:List Int} (h:RB H Q row):∀ t,H t=none→Q (.ref t) (L2.upd H t (.tup (vI row))):=fun t ht=>h t _ ht (az.upd ht) ak
theorem wX:aN ["name","n","parameter","formula","read"] ["name","n"] (aD yK):=⟨rfl,rfl,rfl,by decide +kernel,rfl,by decide +kernel,by decide +kernel⟩
theorem Nm {f fW fN Cx fI:Addr} {fd dW dN dI:FuncData} (F:Fn K mg "bare_name_instruction" yK f fd ["name","n"]) (FW:Fn K mg "number_within" jf fW dW ["name","head","tail","count"]) (GW:aL P w K mg base (bh P w) 1 fW dW ["name","head","tail","count"] jO)
    (FN:Fn K mg "number_of_read" Jd fN dN ["name"]) (GN:aL P w K mg base (bh P w) 2 fN dN ["name"] Ik) (X:XC P w K mg base "WrongName" Cx fI dI (-8)) (R:CR K mg):aL P w K mg base (bh P w) 4 f fd ["name","n"] (Av Cx):=by
  refine fV F.F wX (fun vs H Q E h=>?_) (fun cdv A outer s H vs Q E hr h=>?_)
  · obtain ⟨_,_,rfl,_⟩:=h
    rfl
  · obtain ⟨a,n,rfl,hg,k,kr⟩:=h
    unfold iu at hg
    simp only [Bool.and_eq_true] at hg
    obtain ⟨g1,g2,g3,g4⟩:=hg
    have hr1:bH 1 _:=hr.mono (by omega)
    have hr2:bH 2 _:=hr.mono (by omega)
    refine ⟨_,aj (aW (i:=2) wX.nd rfl (Or.inl rfl) (aQ GW hr1 rfl FW.m FW.F.kp FW.b .nil passes (aa (pv 0) (aa fY (aa fY (aa (pv 1) aq))))))
      (aj (aY (aG uv (pv 2) aA (aK _)) (ao (aJ (eF (aa aA (aa (pv 2) aq))))) aH)
      (aj (aW (i:=3) wX.nd rfl (Or.inl rfl) (aQ GW hr1 rfl FW.m FW.F.kp FW.b .nil passes (aa (pv 0) (aa fY (aa fY (aa (bD rfl R.FO) aq))))))
      (aj (aY (aG uv (pv 3) aA (aK _)) (ao (aJ (eF (aa aA (aa (pv 3) (aa aA aq)))))) aH)
      (aj (aW (i:=4) wX.nd rfl (Or.inl rfl) (aQ GN hr2 rfl FN.m FN.F.kp FN.b .nil passes (aa (pv 0) aq)))
      (aj (aY (aG uv (pv 4) aA (aK _)) (ao (aJ (eF (aa aA (aa (pv 4) aq))))) aH)
      (ao (b_ X.made X.cls X.ok hr rfl X.m X.b rfl bU))))))),?_⟩
    refine ⟨_,rfl,_,rfl,a,"a","",n,rfl,g1,?_⟩
    refine ⟨_,rfl,_,_,rfl,rfl,_,rfl,bO (fun h1=>?_) fun h1=>?_⟩
    · have h1:0≤iD a "a" "" n:=of_decide_eq_true h1
      exact ⟨_,rfl,(by show 2≤sizeLine; decide),kY (k [1,iD a "a" "" n] (by unfold lW; rw [if_pos h1]))⟩
    have h1:¬ 0≤iD a "a" "" n:=fun z=>h1 (decide_eq_true z)
    refine ⟨_,rfl,a,"g","",64,rfl,g2,?_⟩
    refine ⟨_,rfl,_,_,rfl,rfl,_,rfl,bO (fun h2=>?_) fun h2=>?_⟩
    · have h2:0≤iD a "g" "" 64:=of_decide_eq_true h2
      exact ⟨_,rfl,(by show 3≤sizeLine; decide),kY (k [8,iD a "g" "" 64,0] (by unfold lW; rw [if_neg h1,if_pos h2]))⟩
    have h2:¬ 0≤iD a "g" "" 64:=fun z=>h2 (decide_eq_true z)
    refine ⟨_,rfl,a,rfl,g4,?_⟩
    refine ⟨_,rfl,_,_,rfl,rfl,_,rfl,bO (fun h3=>?_) fun h3=>?_⟩
    · have h3:0≤oG a:=of_decide_eq_true h3
      exact ⟨_,rfl,(by show 2≤sizeLine; decide),kY (k [2,oG a] (by unfold lW; rw [if_neg h1,if_neg h2,if_pos h3]))⟩
    have h3:¬ 0≤oG a:=fun z=>h3 (decide_eq_true z)
    have bad:bB Cx (-8) H E:=kr (by unfold lW; rw [if_neg h1,if_neg h2,if_neg h3])
    exact fun e d H' s' x1 x2=>bad e d H' s' x1 x2
theorem tZ:aN ["name","count","formula","table"] ["name","count"] (aD nY):=⟨rfl,rfl,rfl,by decide +kernel,rfl,by decide +kernel,by decide +kernel⟩
theorem F_ {f fW Cx fI:Addr} {fd dW dI:FuncData} (F:Fn K mg "called_name_instruction" nY f fd ["name","count"]) (FW:Fn K mg "number_within" jf fW dW ["name","head","tail","count"]) (GW:aL P w K mg base (bh P w) 1 fW dW ["name","head","tail","count"] jO)
    (X:XC P w K mg base "WrongName" Cx fI dI (-8)) (R:CR K mg):aL P w K mg base (bh P w) 4 f fd ["name","count"] (tR Cx):=by
  refine fV F.F tZ (fun vs H Q E h=>?_) (fun cdv A outer s H vs Q E hr h=>?_)
  · obtain ⟨_,_,rfl,_⟩:=h
    rfl
  · obtain ⟨a,n,rfl,hg,k,kr⟩:=h
    unfold iu at hg
    simp only [Bool.and_eq_true] at hg
    obtain ⟨g1,g2,g3,g4⟩:=hg
    have hr1:bH 1 _:=hr.mono (by omega)
    refine ⟨_,aj (aW (i:=2) tZ.nd rfl (Or.inl rfl) (aQ GW hr1 rfl FW.m FW.F.kp FW.b .nil passes (aa (pv 0) (aa fY (aa fY (aa (bD rfl R.FO) aq))))))
      (aj (aY (PW.pt (xj (aG uv (pv 2) aA (aK _)) (su (aG lR (pv 1) (bD rfl R.MA) (aK _))))) (ao (aJ (eF (aa aA (aa (pv 2) (aa (pv 1) aq)))))) aH)
      (aj (aW (i:=3) tZ.nd rfl (Or.inl rfl) (aQ GW hr1 rfl FW.m FW.F.kp FW.b .nil passes (aa (pv 0) (aa fY (aa fY (aa (bD rfl R.TA) aq))))))
      (aj (aY (PW.pt (xj (aG uv (pv 3) aA (aK _)) (su (aG bI (pv 1) aA (aK _))))) (ao (aJ (eF (aa aA (aa (pv 3) aq))))) aH)
      (ao (b_ X.made X.cls X.ok hr rfl X.m X.b rfl bU))))),?_⟩
    refine ⟨_,rfl,a,"g","",64,rfl,g2,?_⟩
    by_cases h1:0≤iD a "g" "" 64∧n≤8
    · refine ⟨_,rfl,_,_,rfl,rfl,_,rfl,bO (fun z1=>?_) fun z1=>absurd (decide_eq_true h1.1) z1⟩
      refine ⟨_,rfl,_,_,rfl,rfl,_,rfl,bO (fun z2=>?_) fun z2=>absurd (decide_eq_true h1.2) z2⟩
      exact ⟨_,rfl,_,rfl,(by show 3≤sizeLine; decide),kY (k [8,iD a "g" "" 64,n] (by unfold gn; rw [if_pos h1]))⟩
    · refine ⟨_,rfl,_,_,rfl,rfl,_,rfl,bO (fun z1=>?_) fun z1=>aZ ?_⟩
      · refine ⟨_,rfl,_,_,rfl,rfl,_,rfl,bO (fun z2=>absurd ⟨of_decide_eq_true z1,of_decide_eq_true z2⟩ h1) fun z2=>?_⟩
        refine ⟨_,rfl,a,"t","",64,rfl,g3,?_⟩
        by_cases h2:0≤iD a "t" "" 64∧n=1
        · refine ⟨_,rfl,_,_,rfl,rfl,_,rfl,bO (fun z1=>?_) fun z1=>absurd (decide_eq_true h2.1) z1⟩
          refine ⟨_,rfl,rfl,_,rfl,bO (fun z2=>?_) fun z2=>absurd (decide_eq_true (by rw [h2.2])) z2⟩
          exact ⟨_,rfl,(by show 2≤sizeLine; decide),kY (k [7,iD a "t" "" 64] (by unfold gn; rw [if_neg h1,if_pos h2]))⟩
        · have bad:bB Cx (-8) H E:=kr (by unfold gn; rw [if_neg h1,if_neg h2])
          refine ⟨_,rfl,_,_,rfl,rfl,_,rfl,bO (fun z1=>?_) fun z1=>aZ (fun e d H' s' x1 x2=>bad e d H' s' x1 x2)⟩
          exact ⟨_,rfl,rfl,_,rfl,bO (fun z2=>absurd ⟨of_decide_eq_true z1,V.int.inj (of_decide_eq_true z2)⟩ h2) fun z2=>fun e d H' s' x1 x2=>bad e d H' s' x1 x2⟩
      · refine ⟨_,rfl,a,"t","",64,rfl,g3,?_⟩
        by_cases h2:0≤iD a "t" "" 64∧n=1
        · refine ⟨_,rfl,_,_,rfl,rfl,_,rfl,bO (fun z1=>?_) fun z1=>absurd (decide_eq_true h2.1) z1⟩
          refine ⟨_,rfl,rfl,_,rfl,bO (fun z2=>?_) fun z2=>absurd (decide_eq_true (by rw [h2.2])) z2⟩
          exact ⟨_,rfl,(by show 2≤sizeLine; decide),kY (k [7,iD a "t" "" 64] (by unfold gn; rw [if_neg h1,if_pos h2]))⟩
        · have bad:bB Cx (-8) H E:=kr (by unfold gn; rw [if_neg h1,if_neg h2])
          refine ⟨_,rfl,_,_,rfl,rfl,_,rfl,bO (fun z1=>?_) fun z1=>aZ (fun e d H' s' x1 x2=>bad e d H' s' x1 x2)⟩
          exact ⟨_,rfl,rfl,_,rfl,bO (fun z2=>absurd ⟨of_decide_eq_true z1,V.int.inj (of_decide_eq_true z2)⟩ h2) fun z2=>fun e d H' s' x1 x2=>bad e d H' s' x1 x2⟩
end
def Gf (a:Str):Bool:=!(O6 a "a" "" && Txt.isdigit (zZ a "a" ""))
theorem xG {a:Str} (h:Gf a=true) (c:Int):¬ 0≤iD a "a" "" c:=by
  unfold Gf at h
  unfold iD
  cases h1:O6 a "a" "" with
  | false=>rw [if_neg (by simp)]; decide
  | true =>
    rw [h1] at h
    rw [if_pos rfl]
    cases h2:Txt.isdigit (zZ a "a" "") with
    | false=>rw [if_neg (by simp)]; decide
    | true=>rw [h2] at h; cases h
theorem K8:((List.range 9).all fun n=>(List.range n).all fun i=>iu (gZ (Vbdeam.argName i)) && decide (iD (gZ (Vbdeam.argName i)) "a" "" (n:Nat)=((i:Nat):Int)))=true:=by decide +kernel
def yL (k:Nat):Bool:=(Vbdeam.readName k).all fun t=>iu (gZ t) && (Gf (gZ t) && (decide (¬ 0≤iD (gZ t) "g" "" 64) && decide (oG (gZ t)=((k:Nat):Int))))
theorem Fg:((List.range 960).all yL)=true:=by decide +kernel
theorem GX:((List.range 64).all fun f=>iu (gZ (Vbdeam.nameOf 11 f)) && (Gf (gZ (Vbdeam.nameOf 11 f)) && decide (iD (gZ (Vbdeam.nameOf 11 f)) "g" "" 64=((f:Nat):Int))))=true:=by decide +kernel
theorem Ag:((List.range 64).all fun f=>iu (gZ (Vbdeam.nameOf 10 f)) && (decide (¬ 0≤iD (gZ (Vbdeam.nameOf 10 f)) "g" "" 64) && decide (iD (gZ (Vbdeam.nameOf 10 f)) "t" "" 64=((f:Nat):Int))))=true:=by decide +kernel
theorem o6 {n i:Nat} (hn:n≤8) (hi:i < n):iu (gZ (Vbdeam.argName i))=true∧iD (gZ (Vbdeam.argName i)) "a" "" (n:Nat)=(i:Int):=by
  have:=List.all_eq_true.mp (List.all_eq_true.mp K8 n (List.mem_range.mpr (by omega))) i (List.mem_range.mpr hi)
  rw [Bool.and_eq_true] at this
  exact ⟨this.1,of_decide_eq_true this.2⟩
theorem pL {k:Nat} {t:Text} (h:Vbdeam.readName k=some t):iu (gZ t)=true∧Gf (gZ t)=true∧(¬ 0≤iD (gZ t) "g" "" 64)∧oG (gZ t)=(k:Int):=by
  by_cases hk:k < 960
  · have:=List.all_eq_true.mp Fg k (List.mem_range.mpr hk)
    unfold yL at this
    rw [h] at this
    simp only [Option.all_some,Bool.and_eq_true,decide_eq_true_eq] at this
    exact this
  · rw [gG (by omega)] at h
    cases h
theorem lg {f:Nat} (h:f < 64):iu (gZ (Vbdeam.nameOf 11 f))=true∧Gf (gZ (Vbdeam.nameOf 11 f))=true∧iD (gZ (Vbdeam.nameOf 11 f)) "g" "" 64=(f:Int):=by
  have:=List.all_eq_true.mp GX f (List.mem_range.mpr h)
  simp only [Bool.and_eq_true,decide_eq_true_eq] at this
  exact this
theorem l_ {f:Nat} (h:f < 64):iu (gZ (Vbdeam.nameOf 10 f))=true∧(¬ 0≤iD (gZ (Vbdeam.nameOf 10 f)) "g" "" 64)∧iD (gZ (Vbdeam.nameOf 10 f)) "t" "" 64=(f:Int):=by
  have:=List.all_eq_true.mp Ag f (List.mem_range.mpr h)
  simp only [Bool.and_eq_true,decide_eq_true_eq] at this
  exact this
theorem sJ {α:Type} {p:α→Bool} {l:List α} {x:α} (hx:x∈l) (hp:p x=true):∃ y,l.find? p=some y∧y∈l∧p y=true:=by
  cases h:l.find? p with
  | none=>exact absurd hp (List.find?_eq_none.mp h x hx)
  | some y=>exact ⟨y,rfl,List.mem_of_find?_eq_some h,List.find?_some h⟩
theorem sI {α:Type} {p:α→Bool} {l:List α} (h:∀ x∈l,p x=true→False):l.find? p=none:=List.find?_eq_none.mpr fun x hx hp=>h x hx hp
theorem Pk {t:Text} {f:Nat} (hf:f < 64) (h:Vbdeam.nameOf 11 f=t):∃ f',Vbdeam.numberIn "g" t=some f'∧f' < 64∧Vbdeam.nameOf 11 f'=t:=by
  obtain ⟨y,h1,h2,h3⟩:=sJ (p:=fun i=>Vbdeam.made "g" i==t) (l:=List.range 64) (x:=f) (List.mem_range.mpr hf) (beq_iff_eq.mpr h)
  exact ⟨y,h1,List.mem_range.mp h2,beq_iff_eq.mp h3⟩
theorem R_ {t:Text} {f:Nat} (hf:f < 64) (h:Vbdeam.nameOf 10 f=t):∃ f',Vbdeam.numberIn "t" t=some f'∧f' < 64∧Vbdeam.nameOf 10 f'=t:=by
  obtain ⟨y,h1,h2,h3⟩:=sJ (p:=fun i=>Vbdeam.made "t" i==t) (l:=List.range 64) (x:=f) (List.mem_range.mpr hf) (beq_iff_eq.mpr h)
  exact ⟨y,h1,List.mem_range.mp h2,beq_iff_eq.mp h3⟩
theorem Ho {n:Nat} {t:Text} (hn:n≤8) (h:MX.S8 n t):iu (gZ t)=true∧∃ i,Vbdeam.codeOf n (.name t)=[i]∧lW (n:Nat) (gZ t)=some i.told:=by
  cases h with
  | @arg i hi =>
    refine ⟨(o6 hn hi).1,?_⟩
    obtain ⟨j,h1,h2,h3⟩:=sJ (p:=fun j=>Vbdeam.argName j==Vbdeam.argName i) (l:=List.range n) (x:=i) (List.mem_range.mpr hi) (beq_iff_eq.mpr rfl)
    have hj:=(o6 hn (List.mem_range.mp h2)).2
    rw [beq_iff_eq.mp h3] at hj
    refine ⟨.arg j,?_,?_⟩
    · show (match (List.range n).find? (fun j=>Vbdeam.argName j==Vbdeam.argName i) with | some i=>_ | none=>_)=_
      rw [h1]
    · unfold lW
      rw [hj,if_pos (by omega)]
      rfl
  | @read k _ hk =>
    obtain ⟨g1,g2,g3,g4⟩:=pL hk
    refine ⟨g1,?_⟩
    have h0:(List.range n).find? (fun j=>Vbdeam.argName j==t)=none:=sI fun j hj hp=>by
      have:=(o6 hn (List.mem_range.mp hj)).2
      rw [beq_iff_eq.mp hp] at this
      exact xG g2 n (by rw [this]; omega)
    have hk9:k < 960:=by
      apply Classical.byContradiction
      intro z
      rw [gG (by omega)] at hk
      cases hk
    obtain ⟨k',h1,h2,h3⟩:=sJ (p:=fun k=>Vbdeam.readName k==some t) (l:=Vbdeam.READNUMBERS) (x:=k) (by unfold Vbdeam.READNUMBERS; exact List.mem_filter.mpr ⟨List.mem_range.mpr hk9,by rw [hk]; rfl⟩) (beq_iff_eq.mpr hk)
    have hk':=(pL (beq_iff_eq.mp h3)).2.2.2
    refine ⟨.var k',?_,?_⟩
    · show (match (List.range n).find? (fun j=>Vbdeam.argName j==t) with | some i=>_ | none=>match Vbdeam.READNUMBERS.find? (fun k=>Vbdeam.readName k==some t) with | some k=>_ | none=>_)=_
      rw [h0,h1]
    · unfold lW
      rw [if_neg (xG g2 n),if_neg g3,hk',if_pos (by omega)]
      rfl
  | @form f hf =>
    obtain ⟨g1,g2,g3⟩:=lg hf
    refine ⟨g1,?_⟩
    have h0:(List.range n).find? (fun j=>Vbdeam.argName j==Vbdeam.nameOf 11 f)=none:=sI fun j hj hp=>by
      have:=(o6 hn (List.mem_range.mp hj)).2
      rw [beq_iff_eq.mp hp] at this
      exact xG g2 n (by rw [this]; omega)
    have h1:Vbdeam.READNUMBERS.find? (fun k=>Vbdeam.readName k==some (Vbdeam.nameOf 11 f))=none:=sI fun k hk hp=>by
      have:=(pL (beq_iff_eq.mp hp)).2.2.1
      rw [g3] at this
      omega
    obtain ⟨f',e1,e2,e3⟩:=Pk hf rfl
    have hf':=(lg e2).2.2
    rw [e3] at hf'
    refine ⟨.call f' 0,?_,?_⟩
    · show (match (List.range n).find? (fun j=>Vbdeam.argName j==Vbdeam.nameOf 11 f) with | some i=>[Ins.arg i] | none=>match Vbdeam.READNUMBERS.find? (fun k=>Vbdeam.readName k==some (Vbdeam.nameOf 11 f)) with | some k=>[Ins.var k] | none=>[Ins.call ((Vbdeam.numberIn "g" (Vbdeam.nameOf 11 f)).getD 0) 0])=_
      rw [h0,h1,e1]
      rfl
    · unfold lW
      rw [if_neg (xG g2 n),hf',if_pos (by omega)]
      rfl
theorem zP {n:Nat} {t:Text} {l:Exps} (h:MX.Tu t l.length):iu (gZ t)=true∧∃ i,Vbdeam.codeOf n (.use t l)=Vbdeam.codesOf n l++[i]∧gn (l.length:Nat) (gZ t)=some i.told:=by
  generalize hm:l.length=m at h
  cases h with
  | @form f _ hf hm8 =>
    obtain ⟨g1,g2,g3⟩:=lg hf
    refine ⟨g1,?_⟩
    have h0:Vbdeam.numberIn "t" (Vbdeam.nameOf 11 f)=none:=sI fun j hj hp=>by
      have:=(l_ (List.mem_range.mp hj)).2.1
      rw [show Vbdeam.nameOf 10 j=Vbdeam.nameOf 11 f from beq_iff_eq.mp hp,g3] at this
      omega
    obtain ⟨f',e1,e2,e3⟩:=Pk hf rfl
    have hf':=(lg e2).2.2
    rw [e3] at hf'
    refine ⟨.call f' l.length,?_,?_⟩
    · show Vbdeam.codesOf n l++(match Vbdeam.numberIn "t" (Vbdeam.nameOf 11 f) with | some t=>[Ins.table t] | none=>[Ins.call ((Vbdeam.numberIn "g" (Vbdeam.nameOf 11 f)).getD 0) l.length])=_
      rw [h0,e1]
      rfl
    · unfold gn
      rw [hf',if_pos ⟨by omega,by omega⟩,hm]
      rfl
  | @table k hk =>
    obtain ⟨g1,g2,g3⟩:=l_ hk
    refine ⟨g1,?_⟩
    obtain ⟨f',e1,e2,e3⟩:=R_ hk rfl
    have hf':=(l_ e2).2.2
    rw [e3] at hf'
    refine ⟨.table f',?_,?_⟩
    · show Vbdeam.codesOf n l++(match Vbdeam.numberIn "t" (Vbdeam.nameOf 10 k) with | some t=>[Ins.table t] | none=>[Ins.call ((Vbdeam.numberIn "g" (Vbdeam.nameOf 10 k)).getD 0) l.length])=_
      rw [e1]
    · unfold gn
      rw [if_neg (fun z=>g2 z.1),hf',if_pos ⟨by omega,rfl⟩]
      rfl
def zm (n:Nat):Exp→Vbdeaa.Code
  | .num q=>[.push q]
  | .name t=>Vbdeam.codeOf n (.name t)
  | .un o _=>[.un o]
  | .bin o _ _=>[.bin o]
  | .best g l=>List.replicate ((j6 l).length - 1) (.best g)
  | .use t l=>(Vbdeam.codeOf n (.use t l)).drop (Vbdeam.codesOf n l).length
  | _=>[]
def Qy:Exp→Prop
  | .and _ _=>False
  | .or _ _=>False
  | .cond _ _ _=>False
  | _=>True
def Ld (H:Hp) (Q:VK) (c:Vbdeaa.Code):Prop:=∀ l ts H',H l=none→az H H'→H' l=some (.lst (ts.map V.ref))→b8 H' c ts→l∉ts→Q (.ref l) H'
def Ao (C:Addr):Sp:=fun vs H Q _=>∃ (a:Addr) (e:Exp) (n:Nat),vs=[.ref a,.int n]∧n≤8∧aV C H e a∧MX.Kn n e∧Qy e∧(kids e).length≤100000∧Ld H Q (zm n e)
abbrev yG:Stmt:=top 46
theorem xR (l:Exps):(j6 l).length=l.length:=by
  match l with
  | .nil=>rfl
  | .cons e r=>show (j6 r).length+1=r.length+1; rw [xR r]
theorem jY {H:Hp} {Q:VK} {i:Ins} {row:List Int} (h:Ld H Q [i]) (hi:i.told=row) {H1:Hp} {t:Addr} (ht:H t=none) (s1:az H H1) (h1:H1 t=some (.tup (vI row))):∀ l,H1 l=none→Q (.ref l) (L2.upd H1 l (.lst [.ref t])):=fun l hl=>by
  have nlt:t≠l:=fun z=>by rw [z,hl] at h1; cases h1
  refine h l [t] _ (same_none s1 hl) (s1.trans (az.upd hl)) ak ?_ (by simpa using fun z=>nlt z.symm)
  refine .cons ?_ .nil
  rw [au nlt,h1,hi]
theorem SM (x:V) (xs:List V):oW (x :: xs) (some 1) none=xs:=by
  have h1:HT.gB (x :: xs).length 0 (some 1)=1:=by
    have:=HT.wZ (x :: xs).length 0 1
    simp at this
    simpa using this
  have h2:HT.gB (x :: xs).length (x :: xs).length none=(x :: xs).length:=HT.Je _ _
  unfold oW
  rw [h1,h2]
  simp
theorem zJ (xs:List V):oW xs (some 1) none=xs.tail:=by
  cases xs with
  | nil=>rfl
  | cons x xs=>exact SM x xs
section
variable {P:Program} {w:World} {K:PySem.W.Frag} {mg:Str→Option Value} {base:Heap}
theorem Az:aN ["node","n","part"] ["node","n"] (aD yG):=⟨rfl,rfl,rfl,by decide +kernel,rfl,by decide +kernel,by decide +kernel⟩
theorem M_ {f C fB fC Cx:Addr} {fd dB dC:FuncData} (F:Fn K mg "last_instructions" yG f fd ["node","n"]) (N:kE K C) (T:CP K mg) (TC:CN K mg) (FB:Fn K mg "bare_name_instruction" yK fB dB ["name","n"]) (GB:aL P w K mg base (bh P w) 4 fB dB ["name","n"] (Av Cx))
    (FC:Fn K mg "called_name_instruction" nY fC dC ["name","count"]) (GC_:aL P w K mg base (bh P w) 4 fC dC ["name","count"] (tR Cx)):aL P w K mg base (bh P w) 5 f fd ["node","n"] (Ao C):=by
  refine fV F.F Az (fun vs H Q E h=>?_) (fun cdv A outer s H vs Q E hr h=>?_)
  · obtain ⟨_,_,_,rfl,_⟩:=h
    rfl
  · obtain ⟨a,e,n,rfl,hn8,hn,hkn,hpl,hlen,k⟩:=h
    obtain ⟨dx,D,l,as,h1,hD,hl,hp⟩:=fD hn
    refine ⟨_,aj (aY (aG bI (aF (pv 0) rfl) (bD rfl T.NUMBER) (aK _)) (ao (aJ (bW (aa (eF (aa aA (aa (bj bL (aF (pv 0) rfl) aA (fun _ _=>rfl)) (aa (bj bL (aF (pv 0) rfl) aA (fun _ _=>rfl)) aq)))) aq)))) aH)
      (aj (aY (aG bI (aF (pv 0) rfl) (bD rfl T.NAME) (aK _)) (ao (aJ (bW (aa (aQ GB hr rfl FB.m FB.F.kp FB.b .nil passes (aa (aF (pv 0) rfl) (aa (pv 1) aq))) aq)))) aH)
      (aj (aY (aG bI (aF (pv 0) rfl) (bD rfl TC.ONE) (aK _)) (ao (aJ (bW (aa (eF (aa aA (aa (aF (pv 0) rfl) aq))) aq)))) aH)
      (aj (aY (aG bI (aF (pv 0) rfl) (bD rfl TC.TWO) (aK _)) (ao (aJ (bW (aa (eF (aa aA (aa (aF (pv 0) rfl) aq))) aq)))) aH)
      (aj (aY (aG bI (aF (pv 0) rfl) (bD rfl T.PICK) (aK _)) (ao (aJ (Dg (own:=[("part",2)]) (te:=HY (aU (tC (.int 10)) (aU (m5 K (jE 0) "detail") cU))) rfl Az.nd (ir (oE wU (aF (pv 0) rfl) (kO aA) Dd)) (kh (by kernel_rfl))
          (fun _ _ _ _ _=>by exact bQ (i:=2) Az.nd rfl (Or.inl rfl)) (fun _ _ _ _ _=>by exact n_) (fun _ _ _ _ _=>by exact eF (aa aA (aa (aF (pv 0) rfl) aq)))))) aH)
      (ao (aJ (bW (aa (aQ GC_ hr rfl FC.m FC.F.kp FC.b .nil passes (aa (aF (pv 0) rfl) (aa (bJ bc (by rfl) T.len (by decide +kernel) (aa (aF (pv 0) rfl) aq)) aq))) aq)))))))),?_⟩
    refine ⟨_,rfl,a,C,dx,_,_,rfl,h1,N.cl,N.nF,rfl,rfl,_,rfl,?_⟩
    cases e with
    | num q =>
      obtain ⟨t,rfl,ht⟩:=hD
      refine cF ⟨_,rfl,a,C,dx,_,_,rfl,h1,N.cl,N.nD,rfl,t,_,_,_,rfl,rfl,dY.of ht,at_of (j:=0) rfl rfl,_,rfl,a,C,dx,_,_,rfl,h1,N.cl,N.nD,rfl,t,_,_,_,rfl,rfl,dY.of ht,at_of (j:=1) rfl rfl,(by show 3≤sizeLine; decide),fun p hp0=>⟨(by show 1≤sizeLine; decide),?_⟩⟩
      exact jY (i:=.push q) (row:=[0,q.1,(q.2:Nat)]) k rfl hp0 (az.upd hp0) ak
    | name t =>
      obtain rfl:D=.str (gZ t):=hD
      obtain ⟨hg,i,hc,hb⟩:=Ho hn8 hkn
      refine aZ ⟨_,rfl,a,C,dx,_,_,rfl,h1,N.cl,N.nF,rfl,rfl,_,rfl,cF ⟨_,rfl,a,C,dx,_,_,rfl,h1,N.cl,N.nD,rfl,_,rfl,gZ t,n,rfl,hg,fun row hrow t2 H1 ht2 s1 h21=>⟨(by show 1≤sizeLine; decide),?_⟩,fun z=>by rw [hb] at z; cases z⟩⟩
      have k:Ld H Q [i]:=by rw [← hc]; exact k
      rw [hb] at hrow
      exact jY (i:=i) (row:=row) k (Option.some.inj hrow) ht2 s1 h21
    | un o b =>
      obtain rfl:D=.int (HJ o):=hD
      refine aZ ⟨_,rfl,a,C,dx,_,_,rfl,h1,N.cl,N.nF,rfl,rfl,_,rfl,aZ ⟨_,rfl,a,C,dx,_,_,rfl,h1,N.cl,N.nF,rfl,rfl,_,rfl,cF ⟨_,rfl,a,C,dx,_,_,rfl,h1,N.cl,N.nD,rfl,(by show 2≤sizeLine; decide),fun p hp0=>⟨(by show 1≤sizeLine; decide),?_⟩⟩⟩⟩
      exact jY (i:=.un o) (row:=[3,(HJ o:Nat)]) k (by cases o <;> rfl) hp0 (az.upd hp0) ak
    | bin o b c =>
      obtain rfl:D=.int (zR o):=hD
      refine aZ ⟨_,rfl,a,C,dx,_,_,rfl,h1,N.cl,N.nF,rfl,rfl,_,rfl,aZ ⟨_,rfl,a,C,dx,_,_,rfl,h1,N.cl,N.nF,rfl,rfl,_,rfl,aZ ⟨_,rfl,a,C,dx,_,_,rfl,h1,N.cl,N.nF,rfl,rfl,_,rfl,cF ⟨_,rfl,a,C,dx,_,_,rfl,h1,N.cl,N.nD,rfl,(by show 2≤sizeLine; decide),fun p hp0=>⟨(by show 1≤sizeLine; decide),?_⟩⟩⟩⟩⟩
      exact jY (i:=.bin o) (row:=[4,(zR o:Nat)]) k (by cases o <;> rfl) hp0 (az.upd hp0) ak
    | and b c=>exact hpl.elim
    | or b c=>exact hpl.elim
    | cond b c d=>exact hpl.elim
    | best g es =>
      obtain rfl:D=.int (if g=true then 1 else 0):=hD
      refine aZ ⟨_,rfl,a,C,dx,_,_,rfl,h1,N.cl,N.nF,rfl,rfl,_,rfl,aZ ⟨_,rfl,a,C,dx,_,_,rfl,h1,N.cl,N.nF,rfl,rfl,_,rfl,aZ ⟨_,rfl,a,C,dx,_,_,rfl,h1,N.cl,N.nF,rfl,rfl,_,rfl,aZ ⟨_,rfl,a,C,dx,_,_,rfl,h1,N.cl,N.nF,rfl,rfl,_,rfl,cF ?_⟩⟩⟩⟩
      have sp:∀ p (hp0:H p=none),az H (L2.upd H p (.lst (oW (as.map V.ref) (some 1) none))):=fun p hp0=>az.upd hp0
      refine ⟨_,rfl,a,C,dx,_,_,rfl,h1,N.cl,N.nP,rfl,1,rfl,l,_,rfl,bG.of hl,fun p hp0=>⟨p,rfl,⟨_,bG.of ak⟩,fun L hL=>?_⟩⟩
      have s0:=sp p hp0
      refine oN (K:=K) (a:=p) (xs:=oW (as.map V.ref) (some 1) none) (fun i H'=>az (L2.upd H p (.lst (oW (as.map V.ref) (some 1) none))) H'∧∃ ts:List Addr,H' L=some (.lst (ts.map V.ref))∧b8 H' (List.replicate i (.best g)) ts∧L∉ts) ⟨az.upd hL,[],ak,.nil,by simp⟩ (fun i H' _ ⟨s1,_⟩=>bG.of (s1 _ _ ak)) ?_ ?_
      · rintro i y H' hi ⟨s1,ts,hL1,hts,hLts⟩
        have h1':=s1 _ _ (s0 _ _ h1)
        have hle:ts.length=i:=by rw [← Paired.length hts]; simp [fX]
        have hi2:i < 100000:=by
          have:=(List.getElem?_eq_some_iff.mp hi).1
          rw [zJ,List.length_tail,List.length_map,← Paired.length hp] at this
          omega
        refine ⟨rfl,_,rfl,a,C,dx,_,_,rfl,h1',N.cl,N.nD,rfl,(by show 2≤sizeLine; decide),fun t ht=>?_⟩
        have nLt:L≠t:=fun z=>by rw [z,ht] at hL1; cases hL1
        refine ⟨_,by rw [au nLt]; exact hL1,by rw [List.length_map,hle]; exact Nat.lt_of_lt_of_le hi2 (by decide),fun b o q=>?_,ts++[t],by rw [ak,List.map_append]; rfl,?_,?_⟩
        · have nbL:b≠L:=fun z=>by rw [z,hL] at q; cases q
          have nbt:b≠t:=fun z=>by rw [← z,s1 _ _ q] at ht; cases ht
          rw [au nbL,au nbt]
          exact s1 _ _ q
        · rw [List.replicate_succ']
          unfold b8 fX
          rw [List.map_append]
          refine cV (dm hts fun row x hx q=>?_) ?_
          · have nxL:x≠L:=fun z=>by rw [z,hL1] at q; cases q
            have nxt:x≠t:=fun z=>by rw [z,ht] at q; cases q
            rw [au nxL,au nxt]
            exact q
          · rw [au (Ne.symm nLt),ak]
            cases g <;> rfl
        · rw [List.mem_append,List.mem_singleton]
          exact fun z=>z.elim hLts nLt
      · rintro H' ⟨s1,ts,hL1,hts,hLts⟩
        refine k L ts H' (same_none s0 hL) (s0.trans s1) hL1 ?_ hLts
        have:(oW (as.map V.ref) (some 1) none).length=(j6 es).length - 1:=by
          rw [zJ,List.length_tail,List.length_map,← Paired.length hp]
          rfl
        rw [this] at hts
        exact hts
    | use t es =>
      obtain rfl:D=.str (gZ t):=hD
      obtain ⟨hg,i,hc,hb⟩:=zP (n:=n) (l:=es) hkn.1
      refine aZ ⟨_,rfl,a,C,dx,_,_,rfl,h1,N.cl,N.nF,rfl,rfl,_,rfl,aZ ⟨_,rfl,a,C,dx,_,_,rfl,h1,N.cl,N.nF,rfl,rfl,_,rfl,aZ ⟨_,rfl,a,C,dx,_,_,rfl,h1,N.cl,N.nF,rfl,rfl,_,rfl,aZ ⟨_,rfl,a,C,dx,_,_,rfl,h1,N.cl,N.nF,rfl,rfl,_,rfl,aZ ?_⟩⟩⟩⟩
      refine ⟨_,rfl,a,C,dx,_,_,rfl,h1,N.cl,N.nD,rfl,_,rfl,a,C,dx,_,_,rfl,h1,N.cl,N.nP,rfl,l,_,rfl,.inl (bG.of hl),gZ t,(as.map V.ref).length,rfl,hg,fun row hrow t2 H1 ht2 s1 h21=>⟨(by show 1≤sizeLine; decide),?_⟩,fun z=>?_⟩
      all_goals have hla:((as.map V.ref).length:Nat)=es.length:=by rw [List.length_map,← Paired.length hp]; exact xR es
      · have k:Ld H Q [i]:=by
          have e1:zm n (.use t es)=[i]:=by
            show (Vbdeam.codeOf n (.use t es)).drop (Vbdeam.codesOf n es).length=_
            rw [hc,List.drop_left]
          rw [← e1]; exact k
        rw [hla,hb] at hrow
        exact jY (i:=i) (row:=row) k (Option.some.inj hrow) ht2 s1 h21
      · rw [hla,hb] at z; cases z
end
def Bh (n:Nat) (sz:List Nat):Exp→List Vbdeaa.Code
  | .and _ _=>[[],[.zero (sz.getD 1 0+2)],[.truth,.jump 1,.push (0,1)]]
  | .or _ _=>[[],[.zero 2,.push (1,1),.jump (sz.getD 1 0+1)],[.truth]]
  | .cond _ _ _=>[[],[.zero (sz.getD 1 0+1)],[.jump (sz.getD 2 0)],[]]
  | e=>List.replicate (kids e).length []++[zm n e]
def eG (H:Hp) (c:Vbdeaa.Code) (x:Addr):Prop:=∃ ts:List Addr,H x=some (.lst (ts.map V.ref))∧b8 H c ts
theorem eG.same {H H':Hp} {c:Vbdeaa.Code} {x:Addr} (s:az H H') (h:eG H c x):eG H' c x:=by
  obtain ⟨ts,h1,h2⟩:=h
  exact ⟨ts,s _ _ h1,h2.same s⟩
def SX (H:Hp) (cs:List Vbdeaa.Code) (l:Addr):Prop:=∃ ls:List Addr,H l=some (.lst (ls.map V.ref))∧Paired (eG H) cs ls
def Ij (C:Addr):Sp:=fun vs H Q _=>∃ (a sl:Addr) (e:Exp) (sz:List Nat) (n:Nat),vs=[.ref a,.ref sl,.int n]∧n≤8∧aV C H e a∧MX.Kn n e∧H sl=some (.lst (sz.map fun (x:Nat)=>V.int x))∧sz.length=(kids e).length∧(kids e).length≤100000 ∧
  ∀ l H',H l=none→az H H'→SX H' (Bh n sz e) l→Q (.ref l) H'
abbrev Jc:Stmt:=top 45
theorem Bg {X:Cx} {es r:List Expr} {p:Pos} {te:TE} {t:TA} (ha:PE X (.List es p) te) (hr:PA X r t):PA X (.List es p :: r) (aU te t):=aa ha hr rfl
theorem MJ {X:Cx} {es r:List Expr} {x:Nat} {p:Pos} {te:TE} {t:TA} (ha:PE X (.Tuple es x p) te) (hr:PA X r t):PA X (.Tuple es x p :: r) (aU te t):=aa ha hr rfl
theorem yS {X:Cx} {i:Int} {m:Nat} {r:List Expr} {p:Pos} {t:TA} (hr:PA X r t):PA X (.Constant (.int i) m p :: r) (aU (tC (.int i)) t):=aa aA hr rfl
theorem Uj {X:Cx} {a b:Expr} {o:Operator} {r:List Expr} {p:Pos} {te:TE} {t:TA} (ha:PE X (.BinOp a o b p) te) (hr:PA X r t):PA X (.BinOp a o b p :: r) (aU te t):=aa ha hr rfl
theorem Ui {X:Cx} {a b:Expr} {r:List Expr} {p:Pos} {te:TE} {t:TA} (ha:PE X (.Subscript a b p) te) (hr:PA X r t):PA X (.Subscript a b p :: r) (aU te t):=aa ha hr rfl
def RJ (K:PySem.W.Frag) (ts:TE) (i j:Int):TE:=z_ (yN fun i j=>.int (i+j)) (z_ (rG K) ts (tC (.int i))) (tC (.int j))
def t1 (a:TE):TE:=HY (aU a cU)
def t2 (a b:TE):TE:=HY (aU a (aU b cU))
def t3 (a b c:TE):TE:=HY (aU a (aU b (aU c cU)))
def cI (i:Int):TE:=tC (.int i)
def tA (K:PySem.W.Frag) (ts:TE):TE:=gw (aU (gw cU) (aU (gw (aU (t2 (cI 6) (RJ K ts 1 2)) cU)) (aU (gw (aU (t1 (cI 9)) (aU (t2 (cI 5) (cI 1)) (aU (t3 (cI 0) (cI 0) (cI 1)) cU)))) cU)))
def tO (K:PySem.W.Frag) (ts:TE):TE:=gw (aU (gw cU) (aU (gw (aU (t2 (cI 6) (cI 2)) (aU (t3 (cI 0) (cI 1) (cI 1)) (aU (t2 (cI 5) (RJ K ts 1 1)) cU)))) (aU (gw (aU (t1 (cI 9)) cU)) cU)))
def tF (K:PySem.W.Frag) (ts:TE):TE:=gw (aU (gw cU) (aU (gw (aU (t2 (cI 6) (RJ K ts 1 1)) cU)) (aU (gw (aU (t2 (cI 5) (z_ (rG K) ts (tC (.int 2)))) cU)) (aU (gw cU) cU))))
section
variable {X:Cx} {sz:Expr} {ts:TE} {k1 k2 k3 k4 k5 k6 k7 k8 k9 x1 x2 x3 x4:Nat} {p0 p1 p2 p3 p4 p5 p6 p7 p8 p9 p10 p11 p12 p13 p14 p15 p16 p17 p18:Pos}
theorem JC {i j:Int} (hs:PE X sz ts):PE X (.BinOp (.Subscript sz (.Constant (.int i) k2 p2) p3) .Add (.Constant (.int j) k3 p4) p5) (RJ X.K ts i j):=cJ gA (bj cD hs aA (fun _ _=>rfl)) aA
theorem Pg {i:Int}:PE X (.Tuple [.Constant (.int i) k4 p8] x2 p9) (t1 (cI i)):=eF (yS aq)
theorem Pb {i j:Int}:PE X (.Tuple [.Constant (.int i) k4 p8,.Constant (.int j) k5 p10] x2 p9) (t2 (cI i) (cI j)):=eF (yS (yS aq))
theorem Pa {i j m:Int}:PE X (.Tuple [.Constant (.int i) k4 p8,.Constant (.int j) k5 p10,.Constant (.int m) k6 p11] x2 p9) (t3 (cI i) (cI j) (cI m)):=eF (yS (yS (yS aq)))
theorem JB {i:Int} {a b:Expr} {o:Operator} {te:TE} (h:PE X (.BinOp a o b p10) te):PE X (.Tuple [.Constant (.int i) k4 p8,.BinOp a o b p10] x2 p9) (t2 (cI i) te):=eF (yS (Uj h aq))
theorem R5 {i:Int} {a b:Expr} {te:TE} (h:PE X (.Subscript a b p10) te):PE X (.Tuple [.Constant (.int i) k4 p8,.Subscript a b p10] x2 p9) (t2 (cI i) te):=eF (yS (Ui h aq))
theorem Di:PE X (.List [] p0) (gw cU):=bW aq
theorem Dh {a:List Expr} {te:TE} (h:PE X (.Tuple a x1 p1) te):PE X (.List [.Tuple a x1 p1] p0) (gw (aU te cU)):=bW (MJ h aq)
theorem Ph {a b c:List Expr} {ta tb tc:TE} (ha:PE X (.Tuple a x1 p1) ta) (hb:PE X (.Tuple b x2 p2) tb) (hc:PE X (.Tuple c x3 p3) tc):PE X (.List [.Tuple a x1 p1,.Tuple b x2 p2,.Tuple c x3 p3] p0) (gw (aU ta (aU tb (aU tc cU)))):=bW (MJ ha (MJ hb (MJ hc aq)))
theorem QH {a b c:List Expr} {ta tb tc:TE} (ha:PE X (.List a p1) ta) (hb:PE X (.List b p2) tb) (hc:PE X (.List c p3) tc):PE X (.List [.List a p1,.List b p2,.List c p3] p0) (gw (aU ta (aU tb (aU tc cU)))):=bW (Bg ha (Bg hb (Bg hc aq)))
theorem QG {a b c d:List Expr} {ta tb tc td:TE} (ha:PE X (.List a p1) ta) (hb:PE X (.List b p2) tb) (hc:PE X (.List c p3) tc) (hd:PE X (.List d p4) td):PE X (.List [.List a p1,.List b p2,.List c p3,.List d p4] p0) (gw (aU ta (aU tb (aU tc (aU td cU))))):=bW (Bg ha (Bg hb (Bg hc (Bg hd aq))))
theorem U9:PE X (.List [.Tuple [.Constant (.int 9) k4 p8] x2 p9,.Tuple [.Constant (.int 5) k5 p10,.Constant (.int 1) k6 p11] x3 p12,.Tuple [.Constant (.int 0) k7 p13,.Constant (.int 0) k8 p14,.Constant (.int 1) k9 p15] x4 p16] p17) (gw (aU (t1 (cI 9)) (aU (t2 (cI 5) (cI 1)) (aU (t3 (cI 0) (cI 0) (cI 1)) cU)))):=Ph Pg Pb Pa
theorem U8 (hs:PE X sz ts):PE X (.List [.Tuple [.Constant (.int 6) k1 p1,.BinOp (.Subscript sz (.Constant (.int 1) k2 p2) p3) .Add (.Constant (.int 2) k3 p4) p5] x1 p6] p7) (gw (aU (t2 (cI 6) (RJ X.K ts 1 2)) cU)):=Dh (JB (JC hs))
structure PB (X:Cx) (e:Expr) (t:TE):Prop where
  h:PE X e t
theorem JF {a b c:List Expr} {ta tb tc:TE} (ha:PB X (.List a p1) ta) (hb:PB X (.List b p2) tb) (hc:PB X (.List c p3) tc):PB X (.List [.List a p1,.List b p2,.List c p3] p0) (gw (aU ta (aU tb (aU tc cU)))):=⟨QH ha.h hb.h hc.h⟩
theorem Uh (hs:PE X sz ts):PB X (.List [.List [] p0,.List [.Tuple [.Constant (.int 6) k1 p1,.BinOp (.Subscript sz (.Constant (.int 1) k2 p2) p3) .Add (.Constant (.int 2) k3 p4) p5] x1 p6] p7,.List [.Tuple [.Constant (.int 9) k4 p8] x2 p9,.Tuple [.Constant (.int 5) k5 p10,.Constant (.int 1) k6 p11] x3 p12,.Tuple [.Constant (.int 0) k7 p13,.Constant (.int 0) k8 p14,.Constant (.int 1) k9 p15] x4 p16] p17] p18) (tA X.K ts):=JF ⟨Di⟩ ⟨U8 hs⟩ ⟨U9⟩
theorem U7 (hs:PE X sz ts):PE X (.List [.Tuple [.Constant (.int 6) k5 p10,.Constant (.int 2) k6 p11] x3 p12,.Tuple [.Constant (.int 0) k7 p13,.Constant (.int 1) k8 p14,.Constant (.int 1) k9 p15] x4 p16,.Tuple [.Constant (.int 5) k1 p1,.BinOp (.Subscript sz (.Constant (.int 1) k2 p2) p3) .Add (.Constant (.int 1) k3 p4) p5] x1 p6] p7) (gw (aU (t2 (cI 6) (cI 2)) (aU (t3 (cI 0) (cI 1) (cI 1)) (aU (t2 (cI 5) (RJ X.K ts 1 1)) cU)))):=Ph Pb Pa (JB (JC hs))
theorem Ue (hs:PE X sz ts):PB X (.List [.List [] p0,.List [.Tuple [.Constant (.int 6) k5 p10,.Constant (.int 2) k6 p11] x3 p12,.Tuple [.Constant (.int 0) k7 p13,.Constant (.int 1) k8 p14,.Constant (.int 1) k9 p15] x4 p16,.Tuple [.Constant (.int 5) k1 p1,.BinOp (.Subscript sz (.Constant (.int 1) k2 p2) p3) .Add (.Constant (.int 1) k3 p4) p5] x1 p6] p7,.List [.Tuple [.Constant (.int 9) k4 p8] x2 p9] p17] p18) (tO X.K ts):=JF ⟨Di⟩ ⟨U7 hs⟩ ⟨Dh Pg⟩
theorem QL {a b c d:List Expr} {ta tb tc td:TE} (ha:PB X (.List a p1) ta) (hb:PB X (.List b p2) tb) (hc:PB X (.List c p3) tc) (hd:PB X (.List d p4) td):PB X (.List [.List a p1,.List b p2,.List c p3,.List d p4] p0) (gw (aU ta (aU tb (aU tc (aU td cU))))):=⟨QG ha.h hb.h hc.h hd.h⟩
theorem Ug {sz':Expr} (hs:PE X sz ts) (hs':PE X sz' ts):PB X (.List [.List [] p0,.List [.Tuple [.Constant (.int 6) k1 p1,.BinOp (.Subscript sz (.Constant (.int 1) k2 p2) p3) .Add (.Constant (.int 1) k3 p4) p5] x1 p6] p7,.List [.Tuple [.Constant (.int 5) k4 p8,.Subscript sz' (.Constant (.int 2) k5 p10) p11] x2 p9] p12,.List [] p13] p18) (tF X.K ts):=QL ⟨Di⟩ ⟨Dh (JB (JC hs))⟩ ⟨Dh (R5 (bj cD hs' aA (fun _ _=>rfl)))⟩ ⟨Di⟩
structure U5 (X:Cx) (st:Stmt) (t:TS):Prop where
  h:PS X st t
structure Ry (X:Cx) (st:List Stmt) (t:TS):Prop where
  h:Hv X st t
theorem xq {e:Expr} {te:TE} {pos:Pos} (h:PB X e te):U5 X (.Return (some e) pos) (vd te):=⟨aJ h.h⟩
theorem xr {st:Stmt} {t:TS} (h:U5 X st t):Ry X [st] t:=⟨ao h.h⟩
theorem Bc {c:Expr} {a b:List Stmt} {tc:TT} {t u:TS} {pos:Pos} (hc:PT X c tc) (ha:Ry X a t) (hb:Ry X b u):PS X (.If c a b pos) (vf tc t u):=aY hc ha.h hb.h
end
theorem j7 {H:Hp} {x:Addr} (h:H x=some (.lst [])):eG H [] x:=⟨[],h,.nil⟩
section
variable {P:Program} {w:World} {K:PySem.W.Frag} {mg:Str→Option Value} {base:Heap}
theorem IV:aN ["node","sizes","n","part"] ["node","sizes","n"] (aD Jc):=⟨rfl,rfl,rfl,by decide +kernel,rfl,by decide +kernel,by decide +kernel⟩
theorem QV {f C fL:Addr} {fd dL:FuncData} (F:Fn K mg "own_instructions" Jc f fd ["node","sizes","n"]) (N:kE K C) (T:CP K mg) (TC:CN K mg) (FL:Fn K mg "last_instructions" yG fL dL ["node","n"]) (GL:aL P w K mg base (bh P w) 5 fL dL ["node","n"] (Ao C)):aL P w K mg base (bh P w) 6 f fd ["node","sizes","n"] (Ij C):=by
  refine fV F.F IV (fun vs H Q E h=>?_) (fun cdv A outer s H vs Q E hr h=>?_)
  · obtain ⟨_,_,_,_,_,rfl,_⟩:=h
    rfl
  · obtain ⟨a,sl,e,sz,n,rfl,hn8,hn,hkn,hsl,hsz,hlen,k⟩:=h
    obtain ⟨dx,D,l,as,h1,hD,hl,hp⟩:=fD hn
    refine ⟨_,aj (Bc (aG bI (aF (pv 0) rfl) (bD rfl TC.AND) (aK _)) (xr (xq (Uh (pv 1)))) ⟨aH⟩)
      (aj (Bc (aG bI (aF (pv 0) rfl) (bD rfl TC.OR) (aK _)) (xr (xq (Ue (pv 1)))) ⟨aH⟩)
      (aj (Bc (aG bI (aF (pv 0) rfl) (bD rfl TC.IF) (aK _)) (xr (xq (Ug (pv 1) (pv 1)))) ⟨aH⟩)
      (ao (aJ (cJ Bk (Dg (own:=[("part",3)]) (te:=gw cU) rfl IV.nd (ir (aF (pv 0) rfl)) (kh (by kernel_rfl))
          (fun _ _ _ _ _=>by exact bQ (i:=3) IV.nd rfl (Or.inl rfl)) (fun _ _ _ _ _=>by exact n_) (fun _ _ _ _ _=>by exact bW aq))
        (bW (aa (aQ GL hr rfl FL.m FL.F.kp FL.b .nil passes (aa (pv 0) (aa (pv 2) aq))) aq))))))),?_⟩
    refine ⟨_,rfl,a,C,dx,_,_,rfl,h1,N.cl,N.nF,rfl,rfl,_,rfl,?_⟩
    have szi:∀ i:Nat,i < sz.length→lF (sz.map fun (x:Nat)=>V.int x) (i:Int)=some (V.int (sz.getD i 0:Nat)):=fun i hi=>jr (by rw [List.getElem?_map,List.getElem?_eq_getElem hi,List.getD_eq_getElem?_getD,List.getElem?_eq_getElem hi]; rfl)
    cases e with
    | and b c =>
      refine cF ⟨(by show 0≤sizeLine; decide),fun q0 hq0=>⟨_,rfl,sl,_,1,_,rfl,rfl,bG.of (az.upd hq0 _ _ hsl),szi 1 (by rw [hsz]; exact Nat.le_of_ble_eq_true rfl),_,_,rfl,rfl,(by show 2≤sizeLine; decide),fun r1 hr1=>⟨(by show 1≤sizeLine; decide),fun q1 hq1=>⟨(by show 1≤sizeLine; decide),fun r2 hr2=>⟨(by show 2≤sizeLine; decide),fun r3 hr3=>⟨(by show 3≤sizeLine; decide),fun r4 hr4=>⟨(by show 3≤sizeLine; decide),fun q2 hq2=>⟨(by show 3≤sizeLine; decide),fun L hL=>?_⟩⟩⟩⟩⟩⟩⟩⟩
      refine k L _ (same_none ((az.upd hq0).trans ((az.upd hr1).trans ((az.upd hq1).trans ((az.upd hr2).trans ((az.upd hr3).trans ((az.upd hr4).trans (az.upd hq2))))))) hL) ((az.upd hq0).trans ((az.upd hr1).trans ((az.upd hq1).trans ((az.upd hr2).trans ((az.upd hr3).trans ((az.upd hr4).trans ((az.upd hq2).trans (az.upd hL)))))))) ⟨[q0,q1,q2],ak,.cons ?_ (.cons ?_ (.cons ?_ .nil))⟩
      · exact j7 (((az.upd hr1).trans ((az.upd hq1).trans ((az.upd hr2).trans ((az.upd hr3).trans ((az.upd hr4).trans ((az.upd hq2).trans (az.upd hL))))))) q0 _ ak)
      · exact ⟨[r1],((az.upd hr2).trans ((az.upd hr3).trans ((az.upd hr4).trans ((az.upd hq2).trans (az.upd hL))))) q1 _ ak,.cons (((az.upd hq1).trans ((az.upd hr2).trans ((az.upd hr3).trans ((az.upd hr4).trans ((az.upd hq2).trans (az.upd hL)))))) r1 _ ak) .nil⟩
      · exact ⟨[r2,r3,r4],(az.upd hL) q2 _ ak,.cons (((az.upd hr3).trans ((az.upd hr4).trans ((az.upd hq2).trans (az.upd hL)))) r2 _ ak) (.cons (((az.upd hr4).trans ((az.upd hq2).trans (az.upd hL))) r3 _ ak) (.cons (((az.upd hq2).trans (az.upd hL)) r4 _ ak) .nil))⟩
    | or b c =>
      refine aZ ⟨_,rfl,a,C,dx,_,_,rfl,h1,N.cl,N.nF,rfl,rfl,_,rfl,cF ⟨(by show 0≤sizeLine; decide),fun q0 hq0=>⟨(by show 2≤sizeLine; decide),fun r1 hr1=>⟨(by show 3≤sizeLine; decide),fun r2 hr2=>⟨_,rfl,sl,_,1,_,rfl,rfl,bG.of (((az.upd hq0).trans ((az.upd hr1).trans (az.upd hr2))) _ _ hsl),szi 1 (by rw [hsz]; exact Nat.le_of_ble_eq_true rfl),_,_,rfl,rfl,(by show 2≤sizeLine; decide),fun r3 hr3=>⟨(by show 3≤sizeLine; decide),fun q1 hq1=>⟨(by show 1≤sizeLine; decide),fun r4 hr4=>⟨(by show 1≤sizeLine; decide),fun q2 hq2=>⟨(by show 3≤sizeLine; decide),fun L hL=>?_⟩⟩⟩⟩⟩⟩⟩⟩⟩
      refine k L _ (same_none ((az.upd hq0).trans ((az.upd hr1).trans ((az.upd hr2).trans ((az.upd hr3).trans ((az.upd hq1).trans ((az.upd hr4).trans (az.upd hq2))))))) hL) ((az.upd hq0).trans ((az.upd hr1).trans ((az.upd hr2).trans ((az.upd hr3).trans ((az.upd hq1).trans ((az.upd hr4).trans ((az.upd hq2).trans (az.upd hL)))))))) ⟨[q0,q1,q2],ak,.cons ?_ (.cons ?_ (.cons ?_ .nil))⟩
      · exact j7 (((az.upd hr1).trans ((az.upd hr2).trans ((az.upd hr3).trans ((az.upd hq1).trans ((az.upd hr4).trans ((az.upd hq2).trans (az.upd hL))))))) q0 _ ak)
      · exact ⟨[r1,r2,r3],((az.upd hr4).trans ((az.upd hq2).trans (az.upd hL))) q1 _ ak,.cons (((az.upd hr2).trans ((az.upd hr3).trans ((az.upd hq1).trans ((az.upd hr4).trans ((az.upd hq2).trans (az.upd hL)))))) r1 _ ak) (.cons (((az.upd hr3).trans ((az.upd hq1).trans ((az.upd hr4).trans ((az.upd hq2).trans (az.upd hL))))) r2 _ ak) (.cons (((az.upd hq1).trans ((az.upd hr4).trans ((az.upd hq2).trans (az.upd hL)))) r3 _ ak) .nil))⟩
      · exact ⟨[r4],(az.upd hL) q2 _ ak,.cons (((az.upd hq2).trans (az.upd hL)) r4 _ ak) .nil⟩
    | cond d b c =>
      refine aZ ⟨_,rfl,a,C,dx,_,_,rfl,h1,N.cl,N.nF,rfl,rfl,_,rfl,aZ ⟨_,rfl,a,C,dx,_,_,rfl,h1,N.cl,N.nF,rfl,rfl,_,rfl,cF ⟨(by show 0≤sizeLine; decide),fun q0 hq0=>⟨_,rfl,sl,_,1,_,rfl,rfl,bG.of (az.upd hq0 _ _ hsl),szi 1 (by rw [hsz]; exact Nat.le_of_ble_eq_true rfl),_,_,rfl,rfl,(by show 2≤sizeLine; decide),fun r1 hr1=>⟨(by show 1≤sizeLine; decide),fun q1 hq1=>⟨_,rfl,sl,_,2,_,rfl,rfl,bG.of (((az.upd hq0).trans ((az.upd hr1).trans (az.upd hq1))) _ _ hsl),szi 2 (by rw [hsz]; exact Nat.le_of_ble_eq_true rfl),(by show 2≤sizeLine; decide),fun r2 hr2=>⟨(by show 1≤sizeLine; decide),fun q2 hq2=>⟨(by show 0≤sizeLine; decide),fun q3 hq3=>⟨(by show 4≤sizeLine; decide),fun L hL=>?_⟩⟩⟩⟩⟩⟩⟩⟩⟩
      refine k L _ (same_none ((az.upd hq0).trans ((az.upd hr1).trans ((az.upd hq1).trans ((az.upd hr2).trans ((az.upd hq2).trans (az.upd hq3)))))) hL) ((az.upd hq0).trans ((az.upd hr1).trans ((az.upd hq1).trans ((az.upd hr2).trans ((az.upd hq2).trans ((az.upd hq3).trans (az.upd hL))))))) ⟨[q0,q1,q2,q3],ak,.cons ?_ (.cons ?_ (.cons ?_ (.cons ?_ .nil)))⟩
      · exact j7 (((az.upd hr1).trans ((az.upd hq1).trans ((az.upd hr2).trans ((az.upd hq2).trans ((az.upd hq3).trans (az.upd hL)))))) q0 _ ak)
      · exact ⟨[r1],((az.upd hr2).trans ((az.upd hq2).trans ((az.upd hq3).trans (az.upd hL)))) q1 _ ak,.cons (((az.upd hq1).trans ((az.upd hr2).trans ((az.upd hq2).trans ((az.upd hq3).trans (az.upd hL))))) r1 _ ak) .nil⟩
      · exact ⟨[r2],((az.upd hq3).trans (az.upd hL)) q2 _ ak,.cons (((az.upd hq2).trans ((az.upd hq3).trans (az.upd hL))) r2 _ ak) .nil⟩
      · exact j7 ((az.upd hL) q3 _ ak)
    | _ =>
      refine aZ ⟨_,rfl,a,C,dx,_,_,rfl,h1,N.cl,N.nF,rfl,rfl,_,rfl,aZ ⟨_,rfl,a,C,dx,_,_,rfl,h1,N.cl,N.nF,rfl,rfl,_,rfl,aZ ?_⟩⟩
      refine ⟨_,rfl,a,C,dx,_,_,rfl,h1,N.cl,N.nP,rfl,l,rfl,⟨_,bG.of hl⟩,fun L hL=>?_⟩
      refine oN (K:=K) (a:=l) (xs:=as.map V.ref) (fun i H'=>az H H'∧∃ ls:List Addr,H' L=some (.lst (ls.map V.ref))∧ls.length=i∧∀ x∈ls,x≠L∧H' x=some (.lst [])) ⟨az.upd hL,[],ak,rfl,by simp⟩ (fun i H' _ ⟨s1,_⟩=>bG.of (s1 _ _ hl)) ?_ ?_
      · rintro i y H' hi ⟨s1,ls,hL1,hli,hls⟩
        have hi2:i < 100001:=by
          have:=(List.getElem?_eq_some_iff.mp hi).1
          rw [List.length_map,← Paired.length hp] at this
          omega
        refine ⟨rfl,(by show 0≤sizeLine; decide),fun q hq=>?_⟩
        have nLq:L≠q:=fun z=>by rw [z,hq] at hL1; cases hL1
        refine ⟨_,by rw [au nLq]; exact hL1,by rw [List.length_map,hli]; exact Nat.lt_of_lt_of_le hi2 (by decide),fun b o z=>?_,ls++[q],by rw [ak,List.map_append]; rfl,by rw [List.length_append,hli]; rfl,fun x hx=>?_⟩
        · have nbL:b≠L:=fun y=>by rw [y,hL] at z; cases z
          have nbq:b≠q:=fun y=>by rw [← y,s1 _ _ z] at hq; cases hq
          rw [au nbL,au nbq]
          exact s1 _ _ z
        · rcases List.mem_append.mp hx with hx | hx
          · obtain ⟨g1,g2⟩:=hls x hx
            have nxq:x≠q:=fun y=>by rw [y,hq] at g2; cases g2
            exact ⟨g1,by rw [au g1,au nxq]; exact g2⟩
          · obtain rfl:=List.mem_singleton.mp hx
            exact ⟨Ne.symm nLq,by rw [au (Ne.symm nLq),ak]⟩
      · rintro H1 ⟨s1,ls,hL1,hli,hls⟩
        refine ⟨_,rfl,_,rfl,a,_,n,rfl,hn8,hn.same s1,hkn,trivial,hlen,fun l2 ts H2 hl2 s2 hl22 hrows hnot=>⟨(by show 1≤sizeLine; decide),fun q hq=>?_⟩⟩
        have s3:az H2 (L2.upd H2 q (.lst [V.ref l2])):=az.upd hq
        refine ⟨L,q,_,_,rfl,rfl,s3 _ _ (s2 _ _ hL1),ak,?_,fun p hp0=>?_⟩
        · rw [List.length_map,hli,List.length_map,← Paired.length hp]
          exact Nat.le_trans (Nat.add_le_add hlen (Nat.le_refl _)) (by show 100001≤sizeLine; decide)
        · have s4:=s3.trans (az.upd (o:=.lst (ls.map V.ref++[V.ref l2])) hp0)
          refine k p _ (same_none (s1.trans (s2.trans s3)) hp0) (s1.trans (s2.trans s4)) ⟨ls++[l2],by rw [ak,List.map_append]; rfl,?_⟩
          refine cV ?_ ⟨ts,s4 _ _ hl22,hrows.same s4⟩
          have hk:ls.length=as.length:=by rw [hli,List.length_map]
          have:∀ (m:List Addr),(∀ x∈m,H1 x=some (.lst []))→Paired (eG (L2.upd (L2.upd H2 q (.lst [V.ref l2])) p (.lst (ls.map V.ref++[V.ref l2])))) (List.replicate m.length []) m:=by
            intro m
            induction m with
            | nil=>intro _; exact .nil
            | cons x r ih=>intro hm; exact .cons (j7 (s4 _ _ (s2 _ _ (hm x List.mem_cons_self)))) (ih fun y hy=>hm y (List.mem_cons_of_mem _ hy))
          have:=this ls fun x hx=>(hls x hx).2
          rw [hk,← Paired.length hp] at this
          exact this
end
def eQ:List Vbdeaa.Code→List Vbdeaa.Code→Vbdeaa.Code
  | r :: rs,b :: bs=>r++(b++eQ rs bs)
  | _,_=>[]
def glue:List Vbdeaa.Code→List Vbdeaa.Code→Vbdeaa.Code
  | o :: os,rs=>o++eQ rs os
  | [],_=>[]
theorem uI:∀ (rs bs:List Vbdeaa.Code) (r b:Vbdeaa.Code),rs.length=bs.length→eQ (rs++[r]) (bs++[b])=eQ rs bs++(r++b)
  | [],[],r,b,_=>by show r++(b++[])=[]++(r++b); simp
  | x :: rs,y :: bs,r,b,h=>by
    show x++(y++eQ (rs++[r]) (bs++[b]))=(x++(y++eQ rs bs))++(r++b)
    rw [uI rs bs r b (by simpa using h)]
    simp only [List.append_assoc]
  | [],y :: bs,r,b,h=>by cases h
  | x :: rs,[],r,b,h=>by cases h
theorem rA (last:Vbdeaa.Code):∀ (rs:List Vbdeaa.Code) (r:Vbdeaa.Code),eQ (r :: rs) (List.replicate rs.length []++[last])=r++(rs.flatten++last)
  | [],r=>by show r++(last++[])=r++([]++last); simp
  | x :: rs,r=>by
    show r++([]++eQ (x :: rs) (List.replicate rs.length []++[last]))=r++((x++rs.flatten)++last)
    rw [rA last rs x]
    simp only [List.nil_append,List.append_assoc]
theorem BP (last:Vbdeaa.Code) (rs:List Vbdeaa.Code):glue (List.replicate rs.length []++[last]) rs=rs.flatten++last:=by
  cases rs with
  | nil=>show last++[]=[]++last; simp
  | cons r rs =>
    show []++eQ (r :: rs) (List.replicate rs.length []++[last])=(r++rs.flatten)++last
    rw [rA]
    simp only [List.nil_append,List.append_assoc]
theorem mK (n:Nat):∀ l:Exps,Vbdeam.codesOf n l=((j6 l).map (Vbdeam.codeOf n)).flatten
  | .nil=>rfl
  | .cons e l=>by
    show Vbdeam.codeOf n e++Vbdeam.codesOf n l=Vbdeam.codeOf n e++((j6 l).map (Vbdeam.codeOf n)).flatten
    rw [mK n l]
def lens (n:Nat) (e:Exp):List Nat:=(kids e).map fun k=>(Vbdeam.codeOf n k).length
theorem GD (n:Nat) (e:Exp):glue (Bh n (lens n e) e) ((kids e).map (Vbdeam.codeOf n))=Vbdeam.codeOf n e:=by
  have pl:∀ {e:Exp},Bh n (lens n e) e=List.replicate (kids e).length []++[zm n e]→Vbdeam.codeOf n e=((kids e).map (Vbdeam.codeOf n)).flatten++zm n e→glue (Bh n (lens n e) e) ((kids e).map (Vbdeam.codeOf n))=Vbdeam.codeOf n e:=fun {e} h1 h2=>by
    rw [h1,h2,show (kids e).length=((kids e).map (Vbdeam.codeOf n)).length by rw [List.length_map],BP]
  cases e with
  | num q=>exact pl rfl rfl
  | name t=>exact pl rfl rfl
  | un o a =>
    refine pl rfl ?_
    show Vbdeam.codeOf n a++[.un o]=(Vbdeam.codeOf n a++[])++[.un o]
    rw [List.append_nil]
  | bin o a b =>
    refine pl rfl ?_
    show Vbdeam.codeOf n a++(Vbdeam.codeOf n b++[.bin o])=(Vbdeam.codeOf n a++(Vbdeam.codeOf n b++[]))++[.bin o]
    simp only [List.append_nil,List.append_assoc]
  | and a b =>
    show []++(Vbdeam.codeOf n a++([.zero ((Vbdeam.codeOf n b).length+2)]++(Vbdeam.codeOf n b++([.truth,.jump 1,.push (0,1)]++[]))))=Vbdeam.codeOf n a++(.zero ((Vbdeam.codeOf n b).length+2) :: (Vbdeam.codeOf n b++[.truth,.jump 1,.push (0,1)]))
    rfl
  | or a b =>
    show []++(Vbdeam.codeOf n a++([.zero 2,.push (1,1),.jump ((Vbdeam.codeOf n b).length+1)]++(Vbdeam.codeOf n b++([.truth]++[]))))=Vbdeam.codeOf n a++(.zero 2 :: .push (1,1) :: .jump ((Vbdeam.codeOf n b).length+1) :: (Vbdeam.codeOf n b++[.truth]))
    rfl
  | cond c a b =>
    show []++(Vbdeam.codeOf n c++([.zero ((Vbdeam.codeOf n a).length+1)]++(Vbdeam.codeOf n a++([.jump (Vbdeam.codeOf n b).length]++(Vbdeam.codeOf n b++([]++[]))))))=Vbdeam.codeOf n c++(.zero ((Vbdeam.codeOf n a).length+1) :: (Vbdeam.codeOf n a++(.jump (Vbdeam.codeOf n b).length :: Vbdeam.codeOf n b)))
    simp only [List.append_nil,List.nil_append,List.cons_append]
  | best g l =>
    refine pl rfl ?_
    show Vbdeam.codesOf n l++List.replicate (l.length - 1) (.best g)=((j6 l).map (Vbdeam.codeOf n)).flatten++List.replicate ((j6 l).length - 1) (.best g)
    rw [mK,xR]
  | use t l =>
    refine pl rfl ?_
    show Vbdeam.codeOf n (.use t l)=((j6 l).map (Vbdeam.codeOf n)).flatten++(Vbdeam.codeOf n (.use t l)).drop (Vbdeam.codesOf n l).length
    rw [← mK]
    simp only [Vbdeam.codeOf,List.drop_left]
theorem Dk (n:Nat) (sz:List Nat) (e:Exp):(Bh n sz e).length=(kids e).length+1:=by
  cases e <;> first | rfl | (show (List.replicate _ ([]:Vbdeaa.Code)++[_]).length=_; rw [List.length_append,List.length_replicate]; rfl)
mutual
theorem dh (n:Nat):∀ e:Exp,(Vbdeam.codeOf n e).length+1≤5 * Vbdeam.size e
  | .num q=>by show 1+1≤5 * 1; omega
  | .name t=>by
    have:(Vbdeam.codeOf n (.name t)).length=1:=by
      simp only [Vbdeam.codeOf]
      split
      · rfl
      · split <;> rfl
    rw [this]; show 1+1≤5 * 1; omega
  | .un o a=>by
    have:=dh n a
    simp only [Vbdeam.codeOf,Vbdeam.size,List.length_append,List.length_cons,List.length_nil]
    omega
  | .bin o a b=>by
    have:=dh n a; have:=dh n b
    simp only [Vbdeam.codeOf,Vbdeam.size,List.length_append,List.length_cons,List.length_nil]
    omega
  | .and a b=>by
    have:=dh n a; have:=dh n b
    simp only [Vbdeam.codeOf,Vbdeam.size,List.length_append,List.length_cons,List.length_nil]
    omega
  | .or a b=>by
    have:=dh n a; have:=dh n b
    simp only [Vbdeam.codeOf,Vbdeam.size,List.length_append,List.length_cons,List.length_nil]
    omega
  | .cond c a b=>by
    have:=dh n c; have:=dh n a; have:=dh n b
    simp only [Vbdeam.codeOf,Vbdeam.size,List.length_append,List.length_cons,List.length_nil]
    omega
  | .best g l=>by
    have:=qt n l
    simp only [Vbdeam.codeOf,Vbdeam.size,List.length_append,List.length_replicate]
    omega
  | .use t l=>by
    have:=qt n l
    simp only [Vbdeam.codeOf,Vbdeam.size,List.length_append]
    split <;> simp only [List.length_cons,List.length_nil] <;> omega
theorem qt (n:Nat):∀ l:Exps,(Vbdeam.codesOf n l).length+l.length≤5 * Vbdeam.sizeAll l
  | .nil=>by show 0+0≤_; omega
  | .cons e l=>by
    have:=dh n e; have:=qt n l
    simp only [Vbdeam.codesOf,Vbdeam.sizeAll,List.length_append,Exps.length]
    omega
end
theorem jd:∀ l:Exps,Vbdeam.sizeAll l=((j6 l).map Vbdeam.size).sum
  | .nil=>rfl
  | .cons e l=>by
    show Vbdeam.size e+Vbdeam.sizeAll l=Vbdeam.size e+((j6 l).map Vbdeam.size).sum
    rw [jd l]
theorem pG (e:Exp):Vbdeam.size e=((kids e).map Vbdeam.size).sum+1:=by
  cases e with
  | num q=>rfl
  | name n=>rfl
  | un o a=>show Vbdeam.size a+1=(Vbdeam.size a+0)+1; omega
  | bin o a b=>show Vbdeam.size a+Vbdeam.size b+1=(Vbdeam.size a+(Vbdeam.size b+0))+1; omega
  | and a b=>show Vbdeam.size a+Vbdeam.size b+1=(Vbdeam.size a+(Vbdeam.size b+0))+1; omega
  | or a b=>show Vbdeam.size a+Vbdeam.size b+1=(Vbdeam.size a+(Vbdeam.size b+0))+1; omega
  | cond c a b=>show Vbdeam.size c+Vbdeam.size a+Vbdeam.size b+1=(Vbdeam.size c+(Vbdeam.size a+(Vbdeam.size b+0)))+1; omega
  | best g l=>show Vbdeam.sizeAll l+1=_; rw [jd]; rfl
  | use t l=>show Vbdeam.sizeAll l+1=_; rw [jd]; rfl
theorem nj (e:Exp):1≤Vbdeam.size e:=by rw [pG]; omega
theorem Cr:∀ {l:List Nat} {x:Nat},x∈l→x≤l.sum
  | a :: l,x,h=>by
    rw [List.sum_cons]
    rcases List.mem_cons.mp h with h | h
    · omega
    · have:=Cr h; omega
theorem oO {e k:Exp} (h:k∈kids e):Vbdeam.size k < Vbdeam.size e:=by
  have:=Cr (List.mem_map_of_mem (f:=Vbdeam.size) h)
  have:=pG e
  omega
theorem zp (e:Exp):(kids e).length < Vbdeam.size e:=by
  have:∀ l:List Exp,l.length≤(l.map Vbdeam.size).sum:=by
    intro l
    induction l with
    | nil=>exact Nat.le_refl _
    | cons x r ih =>
      have:=nj x
      rw [List.map_cons,List.sum_cons,List.length_cons]
      omega
  have:=this (kids e)
  have:=pG e
  omega
theorem BR {n:Nat}:∀ {l:Exps},MX.RC n l→∀ k∈j6 l,MX.Kn n k
  | .nil,_,k,hk=>by cases hk
  | .cons e l,h,k,hk=>by
    rcases List.mem_cons.mp hk with rfl | hk
    · exact h.1
    · exact BR h.2 k hk
theorem NP {n:Nat} {e k:Exp} (h:MX.Kn n e) (hk:k∈kids e):MX.Kn n k:=by
  cases e with
  | num q=>cases hk
  | name t=>cases hk
  | un o a=>simp only [kids,List.mem_cons,List.not_mem_nil,or_false] at hk; subst hk; exact h
  | bin o a b=>simp only [kids,List.mem_cons,List.not_mem_nil,or_false] at hk; rcases hk with hk | hk <;> subst hk <;> first | exact h.1 | exact h.2
  | and a b=>simp only [kids,List.mem_cons,List.not_mem_nil,or_false] at hk; rcases hk with hk | hk <;> subst hk <;> first | exact h.1 | exact h.2
  | or a b=>simp only [kids,List.mem_cons,List.not_mem_nil,or_false] at hk; rcases hk with hk | hk <;> subst hk <;> first | exact h.1 | exact h.2
  | cond c a b=>simp only [kids,List.mem_cons,List.not_mem_nil,or_false] at hk; rcases hk with hk | hk | hk <;> subst hk <;> first | exact h.1 | exact h.2.1 | exact h.2.2
  | best g l=>exact BR h k hk
  | use t l=>exact BR h.2 k hk
theorem dH.trans {x:Addr} {H H1 H2:Hp} (a:dH x H H1) (b:dH x H1 H2):dH x H H2:=fun c o h hc=>b c o (a c o h hc) hc
theorem dH.Qe {x:Addr} {H H1:Hp} {o:HO} (a:dH x H H1):dH x H (L2.upd H1 x o):=fun c u h hc=>by rw [au hc]; exact a c u h hc
theorem dH.same {x:Addr} {H H1 H2:Hp} (h:H x=none) (s:az H H1) (a:dH x H1 H2):az H H2:=fun c u hq=>a c u (s c u hq) (aB hq h)
theorem b8.nO {x:Addr} {H H':Hp} {c:Vbdeaa.Code} {ts:List Addr} {xs:List V} (hx:H x=some (.lst xs)) (s:dH x H H') (h:b8 H c ts):b8 H' c ts :=
  dm h fun _ t _ q=>s _ _ q (qU q hx (by intro z; cases z))
theorem eG.nO {x p:Addr} {H H':Hp} {c:Vbdeaa.Code} {xs:List V} (hx:H x=some (.lst xs)) (hp:p≠x) (s:dH x H H') (h:eG H c p):eG H' c p:=by
  obtain ⟨ts,h1,h2⟩:=h
  exact ⟨ts,s _ _ h1 hp,h2.nO hx s⟩
theorem qP {H:Hp} {c d:Vbdeaa.Code} {ts us:List Addr} (h1:b8 H c ts) (h2:b8 H d us):b8 H (c++d) (ts++us):=by
  unfold b8 fX at *
  rw [List.map_append]
  generalize c.map Ins.told=l at h1
  generalize d.map Ins.told=m at h2
  induction h1 with
  | nil=>exact h2
  | cons a b ih=>exact .cons a ih
theorem n6 {H:Hp} {c:Vbdeaa.Code} {ts:List Addr} (h:b8 H c ts):ts.length=c.length:=by
  have:=Paired.length h
  unfold fX at this
  rw [List.length_map] at this
  exact this.symm
theorem Jk {H:Hp} {c:Vbdeaa.Code} {ts:List Addr} {x:Addr} {xs:List V} (hx:H x=some (.lst xs)) (h:b8 H c ts):x∉ts:=by
  intro hm
  unfold b8 at h
  generalize fX c=l at h
  induction h with
  | nil=>cases hm
  | cons a b ih =>
    rcases List.mem_cons.mp hm with rfl | hm
    · rw [hx] at a; cases a
    · exact ih hm
theorem jg {as:List Addr} {i:Nat} {x:V} (h:(as.map V.ref)[i]?=some x):∃ a,as[i]?=some a∧x=V.ref a:=by
  rw [List.getElem?_map] at h
  cases q:as[i]? with
  | none=>rw [q] at h; cases h
  | some a=>rw [q] at h; exact ⟨a,rfl,(Option.some.inj h).symm⟩
theorem uE {F:Exp→Addr→Prop} {es:List Exp} {as:List Addr} {i:Nat} {b:Addr} (hp:Paired F es as) (h:as[i]?=some b):∃ k,es[i]?=some k∧F k b:=by
  have il:i < es.length:=by rw [Paired.length hp]; exact (List.getElem?_eq_some_iff.mp h).1
  obtain ⟨k,hk⟩:∃ k,es[i]?=some k:=⟨_,List.getElem?_eq_getElem il⟩
  obtain ⟨b',hb',hf⟩:=cM hp hk
  rw [h] at hb'
  cases hb'
  exact ⟨k,hk,hf⟩
theorem wg:∀ (rs bs:List Vbdeaa.Code) (i:Nat),(eQ (rs.take i) (bs.take i)).length≤(eQ rs bs).length
  | [],_,i=>by rw [List.take_nil]; exact Nat.zero_le _
  | r :: rs,[],i=>by rw [List.take_nil]; cases i <;> exact Nat.zero_le _
  | r :: rs,b :: bs,0=>Nat.zero_le _
  | r :: rs,b :: bs,i+1=>by
    have:=wg rs bs i
    show (r++(b++eQ (rs.take i) (bs.take i))).length≤(r++(b++eQ rs bs)).length
    simp only [List.length_append]
    omega
def Jq (K:PySem.W.Frag):List V→Hp→VK→Prop:=fun xs H Q=>∃ p ys,xs=[V.ref p]∧(bG K H p ys∨dY K H p ys)∧Q (V.int (ys.length:Nat)) H
def rT (C:Addr) (h:Nat):Sp:=fun vs H Q _=>∃ (a:Addr) (e:Exp) (n:Nat),vs=[.ref a,.int n]∧n≤8∧aV C H e a∧MX.Kn n e∧e.height≤h∧Vbdeam.size e≤100000∧Ld H Q (Vbdeam.codeOf n e)
abbrev ud:Stmt:=top 44
section
variable {P:Program} {w:World} {K:PySem.W.Frag} {mg:Str→Option Value} {base:Heap}
theorem gf:aN ["node","n","rows","own","whole","row","behind","part"] ["node","n"] (aD ud):=⟨rfl,rfl,rfl,by decide +kernel,rfl,by decide +kernel,by decide +kernel⟩
theorem JS {f C fO:Addr} {fd dO:FuncData} (F:Fn K mg "instructions_of" ud f fd ["node","n"]) (N:kE K C) (T:CP K mg) (hzip:mg "zip"=none) (FO:Fn K mg "own_instructions" Jc fO dO ["node","sizes","n"]) (GO:aL P w K mg base (bh P w) 6 fO dO ["node","sizes","n"] (Ij C)) :
    ∀ h:Nat,aL P w K mg base (bh P w) (h+7) f fd ["node","n"] (rT C h):=by
  intro h
  induction h with
  | zero =>
    refine fV F.F gf (fun vs H Q E h=>?_) (fun cdv A outer s H vs Q E hr h=>?_)
    · obtain ⟨_,_,_,rfl,_⟩:=h
      rfl
    · obtain ⟨a,e,n,rfl,_,hn,_,hh,k⟩:=h
      have:0 < e.height:=by rw [fj]; omega
      omega
  | succ h ih =>
    refine fV F.F gf (fun vs H Q E h=>?_) (fun cdv A outer s H vs Q E hr h=>?_)
    · obtain ⟨_,_,_,rfl,_⟩:=h
      rfl
    · obtain ⟨a,e,n,rfl,hn8,hn,hkn,hh,hsz,k⟩:=h
      obtain ⟨dx,D,l,as,h1,hD,hl,hp⟩:=fD hn
      have hr6:bH 6 _:=hr.mono (by omega)
      have hfew:=zp e
      refine ⟨_,aj (Ju (i:=2) (own:=[("part",7)]) (te:=jL (rT C h) [] E0 (aU (jE 7) (aU (jE 1) cU))) rfl gf.nd rfl rfl (Lw rfl rfl rfl rfl) (ir (aF (pv 0) rfl)) (kh (by kernel_rfl))
          (fun _ _ _ _ _=>by exact bQ (i:=7) gf.nd rfl (Or.inl rfl)) (fun _ _ _ _ _=>by exact n_)
          (fun _ _ _ _ _=>by exact aQ ih hr rfl F.m F.F.kp F.b .nil QM (aa (pv 7) (aa (pv 1) aq))))
        (aj (aW (i:=3) gf.nd rfl (Or.inl rfl) (aQ GO hr6 rfl FO.m FO.F.kp FO.b .nil passes (aa (pv 0) (aa (Dg (own:=[("row",5)]) (te:=Eo (Jq K) (aU (jE 5) cU)) rfl gf.nd (ir (pv 2)) (kh (by kernel_rfl))
            (fun _ _ _ _ _=>by exact bQ (i:=5) gf.nd rfl (Or.inl rfl)) (fun _ _ _ _ _=>by exact n_)
            (fun _ _ _ _ _=>by exact bJ (r:=Jq K) (id:="len") bc (by rfl) T.len (by decide +kernel) (aa (pv 5) aq))) (aa (pv 1) aq)))))
        (aj (aW (i:=4) gf.nd rfl (Or.inl rfl) (fc xW (by rfl) T.list (by decide +kernel) (aa (bj cD (pv 3) aA (fun _ _=>rfl)) aq)))
        (aj (jV pQ rfl (QB rfl hzip (aa (pv 2) (aa (oE wU (pv 3) (kO aA) Dd) aq)))
          (um rfl (cQ (bQ (i:=5) gf.nd rfl (Or.inl rfl)) (cQ (bQ (i:=6) gf.nd rfl (Or.inl rfl)) oA)))
          (aj (bf (iU PySem.F.plainAttrs_list PySem.F.slot_list_extend PySem.F.type_list_extend pX (pv 4) (aa (pv 5) aq)))
            (ao (bf (iU PySem.F.plainAttrs_list PySem.F.slot_list_extend PySem.F.type_list_extend pX (pv 4) (aa (pv 6) aq))))))
        (ao (aJ (pv 4)))))),?_⟩
      refine ⟨_,rfl,a,C,dx,_,_,rfl,h1,N.cl,N.nP,rfl,l,rfl,⟨_,bG.of hl⟩,fun L hL=>?_⟩
      refine oN (K:=K) (a:=l) (xs:=as.map V.ref) (fun i H'=>az H H'∧∃ ps:List Addr,H' L=some (.lst (ps.map V.ref))∧Paired (fun kd p=>p≠L∧eG H' (Vbdeam.codeOf n kd) p) ((kids e).take i) ps) ⟨az.upd hL,[],ak,.nil⟩ (fun i H' _ ⟨s1,_⟩=>bG.of (s1 _ _ hl)) ?_ ?_
      · rintro i y H' hi ⟨s1,ps,hL1,hps⟩
        obtain ⟨b,hb,rfl⟩:=jg hi
        obtain ⟨kd,hkd,hnb⟩:=uE hp hb
        have hkm:=List.mem_of_getElem? hkd
        have hi2:i < (kids e).length:=(List.getElem?_eq_some_iff.mp hkd).1
        have hlp:ps.length=i:=by
          rw [← Paired.length hps,List.length_take]
          omega
        refine ⟨rfl,_,rfl,_,rfl,b,kd,n,rfl,hn8,hnb.same s1,NP hkn hkm,by have:=di hkm; omega,by have:=oO hkm; omega,fun pl ts H2 hpl s2 hpl2 hrows hnot=>?_⟩
        have npL:pl≠L:=fun z=>by rw [z,hL1] at hpl; cases hpl
        have hL2:=s2 _ _ hL1
        refine ⟨_,hL2,?_,?_,ps++[pl],?_,?_⟩
        · rw [List.length_map,hlp]
          exact Nat.lt_of_lt_of_le (by omega:i < 100000) (by decide)
        · intro b o q
          rw [au (aB q hL)]
          exact s2 _ _ (s1 _ _ q)
        · rw [ak,List.map_append]
          rfl
        · rw [List.take_succ,hkd]
          have sx:dH L H2 (L2.upd H2 L (.lst (ps.map V.ref++[V.ref pl]))):=dH.Qe fun _ _ q _=>q
          refine cV (dm hps fun t p _ ⟨q1,q2⟩=>⟨q1,(q2.same s2).nO hL2 q1 sx⟩) ⟨npL,eG.nO hL2 npL sx ⟨ts,hpl2,hrows⟩⟩
      rintro H2 ⟨s1,ps,hL1,hps0⟩
      rw [List.length_map,← Paired.length hp,List.take_length] at hps0
      have hps:Paired (fun kd p=>eG H2 (Vbdeam.codeOf n kd) p) (kids e) ps:=dm hps0 fun _ _ _ q=>q.2
      have hpl:ps.length=(kids e).length:=(Paired.length hps).symm
      refine ⟨_,rfl,_,rfl,L,rfl,⟨_,bG.of hL1⟩,fun S hS=>?_⟩
      refine oN (K:=K) (a:=L) (xs:=ps.map V.ref) (fun i H'=>az H2 H'∧H' S=some (.lst (((lens n e).take i).map fun (x:Nat)=>V.int x))) ⟨az.upd hS,ak⟩ (fun i H' _ ⟨s2,_⟩=>bG.of (s2 _ _ hL1)) ?_ ?_
      · rintro i y H' hi ⟨s2,hS'⟩
        obtain ⟨p,hpi,rfl⟩:=jg hi
        obtain ⟨kd,hkd,ts,hp1,hrows⟩:=uE hps hpi
        have hi2:i < (kids e).length:=(List.getElem?_eq_some_iff.mp hkd).1
        refine ⟨rfl,_,rfl,p,_,rfl,.inl (bG.of (s2 _ _ hp1)),_,hS',?_,?_,?_⟩
        · rw [List.length_map,List.length_take]
          exact Nat.lt_of_le_of_lt (Nat.min_le_left _ _) (Nat.lt_of_lt_of_le (by omega:i < 100000) (by decide))
        · intro b o q
          rw [au (aB q hS)]
          exact s2 _ _ q
        · rw [ak]
          have e1:(lens n e)[i]?=some ts.length:=by unfold lens; rw [List.getElem?_map,hkd,n6 hrows]; rfl
          rw [List.take_succ,e1,List.length_map,List.map_append]
          rfl
      rintro H3 ⟨s2,hS'⟩
      have hll:(lens n e).length=(kids e).length:=by unfold lens; rw [List.length_map]
      rw [List.length_map,hpl,← hll,List.take_length] at hS'
      have s12:=s1.trans s2
      refine ⟨_,rfl,a,S,e,lens n e,n,rfl,hn8,hn.same s12,hkn,hS',hll,by omega,fun lo H4 hlo s3 ⟨ls,hlo1,hls⟩=>?_⟩
      obtain ⟨o0,os,hoc⟩:∃ o0 os,Bh n (lens n e) e=o0 :: os:=by
        cases q:Bh n (lens n e) e with
        | nil=>have:=Dk n (lens n e) e; rw [q] at this; cases this
        | cons x r=>exact ⟨_,_,rfl⟩
      have hol:os.length=(kids e).length:=by have:=Dk n (lens n e) e; rw [hoc] at this; simpa using this
      have hgl:=GD n e
      rw [hoc] at hls hgl
      have hgl:o0++eQ ((kids e).map (Vbdeam.codeOf n)) os=Vbdeam.codeOf n e:=hgl
      have hcl:=dh n e
      obtain ⟨q0,lr,rfl,⟨ts0,hq0,hrow0⟩,hlr⟩:∃ q0 lr,ls=q0 :: lr∧eG H4 o0 q0∧Paired (eG H4) os lr:=by
        cases hls with
        | cons a b=>exact ⟨_,_,rfl,a,b⟩
      have hlrl:lr.length=(kids e).length:=by rw [← Paired.length hlr,hol]
      have s13:=s12.trans s3
      refine ⟨_,rfl,lo,_,_,_,rfl,rfl,bG.of hlo1,at_of (j:=0) rfl rfl,q0,_,rfl,.inl (bG.of hq0),fun wl hwl=>?_⟩
      have s4:az H4 (L2.upd H4 wl (.lst (ts0.map V.ref))):=az.upd hwl
      have hwl0:H wl=none:=same_none s13 hwl
      refine ⟨_,rfl,_,rfl,1,rfl,lo,_,rfl,bG.of (s4 _ _ hlo1),fun p hp0=>?_⟩
      have hcut:oW ((q0 :: lr).map V.ref) (some 1) none=lr.map V.ref:=SM _ _
      rw [hcut]
      have nwp:wl≠p:=fun z=>by rw [← z,ak] at hp0; cases hp0
      generalize hH5:L2.upd (L2.upd H4 wl (.lst (ts0.map V.ref))) p (.lst (lr.map V.ref))=H5
      have s5:az H4 H5:=by rw [← hH5]; exact s4.trans (az.upd hp0)
      have hp5:H5 p=some (.lst (lr.map V.ref)):=by rw [← hH5]; exact ak
      have hw5:H5 wl=some (.lst (ts0.map V.ref)):=by rw [← hH5,au nwp]; exact ak
      have s45:az H2 H5:=(s2.trans s3).trans s5
      have hL5:=s45 _ _ hL1
      have nLw:L≠wl:=fun z=>by have:=(s2.trans s3) _ _ hL1; rw [z,hwl] at this; cases this
      have lenx:(ps.map V.ref).length=(lr.map V.ref).length:=by rw [List.length_map,List.length_map,hpl,hlrl]
      refine ⟨L,p,_,_,rfl,bG.of hL5,bG.of hp5,N_ (K:=K) (a:=L) (b:=p) (xs:=ps.map V.ref) (ys:=lr.map V.ref) lenx
        (fun i σ H'=>∃ v5 v6 v7:Option V,σ=[some (.ref a),some (.int n),some (.ref L),some (.ref lo),some (.ref wl),v5,v6,v7]∧dH wl H5 H'∧∃ ts:List Addr,H' wl=some (.lst (ts.map V.ref))∧b8 H' (o0++eQ (((kids e).map (Vbdeam.codeOf n)).take i) (os.take i)) ts)
        ⟨none,none,none,rfl,fun _ _ q _=>q,ts0,hw5,?_⟩ (fun i σ H' _ ⟨_,_,_,_,sx,_⟩=>⟨bG.of (sx _ _ hL5 nLw),bG.of (sx _ _ hp5 (Ne.symm nwp))⟩) ?_ ?_⟩
      · have:o0++eQ (((kids e).map (Vbdeam.codeOf n)).take 0) (os.take 0)=o0:=by
          show o0++[]=o0
          exact List.append_nil _
        rw [this]
        exact hrow0.same s5
      · rintro i x y σ H' Tt hx hy ⟨v5,v6,v7,rfl,sx,ts,hw,hrows⟩ hT
        obtain ⟨pr,hpr,rfl⟩:=jg hx
        obtain ⟨pb,hpb,rfl⟩:=jg hy
        obtain ⟨kd,hkd,hcr⟩:=uE hps hpr
        have hbi:i < os.length:=by rw [hol]; exact (List.getElem?_eq_some_iff.mp hkd).1
        obtain ⟨ob,hob⟩:∃ ob,os[i]?=some ob:=⟨_,List.getElem?_eq_getElem hbi⟩
        obtain ⟨pb',hpb',hcb⟩:=cM hlr hob
        rw [hpb] at hpb'
        cases hpb'
        have e1:((kids e).map (Vbdeam.codeOf n))[i]?=some (Vbdeam.codeOf n kd):=by rw [List.getElem?_map,hkd]; rfl
        have step:o0++eQ (((kids e).map (Vbdeam.codeOf n)).take (i+1)) (os.take (i+1))=(o0++eQ (((kids e).map (Vbdeam.codeOf n)).take i) (os.take i))++Vbdeam.codeOf n kd++ob:=by
          rw [List.take_succ,List.take_succ,e1,hob]
          show o0++eQ (_++[_]) (_++[_])=_
          rw [uI _ _ _ _ (by rw [List.length_take,List.length_take,List.length_map,hol])]
          simp only [List.append_assoc]
        have bnd:=wg ((kids e).map (Vbdeam.codeOf n)) os (i+1)
        have bnd2:(o0++eQ (((kids e).map (Vbdeam.codeOf n)).take (i+1)) (os.take (i+1))).length≤500000:=by
          have:(o0++eQ ((kids e).map (Vbdeam.codeOf n)) os).length≤500000:=by rw [hgl]; omega
          rw [List.length_append] at this ⊢
          omega
        rw [step,List.length_append,List.length_append] at bnd2
        have npw:∀ {c:Vbdeaa.Code} {q:Addr},eG H4 c q→q≠wl:=fun ⟨_,z,_⟩=>aB z hwl
        have hcr5:eG H5 (Vbdeam.codeOf n kd) pr:=hcr.same s45
        have nprw:pr≠wl:=npw (hcr.same (s2.trans s3))
        have npbw:pb≠wl:=npw hcb
        have nTw:wl≠Tt:=fun z=>by rw [z,hT] at hw; cases hw
        have sT:az H' (L2.upd H' Tt (.tup [V.ref pr,V.ref pb])):=az.upd hT
        obtain ⟨tr,hr1,hr2⟩:=(hcr5.nO hw5 nprw sx).same sT
        obtain ⟨tb,hb1,hb2⟩:=((hcb.same s5).nO hw5 npbw sx).same sT
        have hwT:=sT _ _ hw
        generalize hHT:L2.upd H' Tt (.tup [V.ref pr,V.ref pb])=HT at *
        have hTT:HT Tt=some (.tup [V.ref pr,V.ref pb]):=by rw [← hHT]; exact ak
        have l1:=n6 hrows
        have l2:=n6 hr2
        have l3:=n6 hb2
        have big:(500000:Nat)≤sizeLine:=by decide
        refine ⟨Tt,_,rfl,dY.of hTT,rfl,_,_,rfl,_,_,rfl,rfl,?_⟩
        refine ⟨_,rfl,.inl ⟨rfl,_,bG.of hwT⟩,_,rfl,wl,pr,_,_,rfl,rfl,hwT,hr1,by rw [List.length_map,List.length_map]; omega,?_⟩
        have sx2:dH wl HT (L2.upd HT wl (.lst (ts.map V.ref++tr.map V.ref))):=dH.Qe fun _ _ q _=>q
        have hb1':=sx2 _ _ hb1 npbw
        refine ⟨_,rfl,.inl ⟨rfl,_,bG.of ak⟩,_,rfl,wl,pb,_,_,rfl,rfl,ak,hb1',by rw [List.length_append,List.length_map,List.length_map,List.length_map]; omega,?_⟩
        have sx3:dH wl HT (L2.upd (L2.upd HT wl (.lst (ts.map V.ref++tr.map V.ref))) wl (.lst (ts.map V.ref++tr.map V.ref++tb.map V.ref))):=sx2.Qe
        refine ⟨_,_,_,rfl,(dH.trans sx fun c o q _=>sT c o q).trans sx3,ts++tr++tb,by rw [ak,List.map_append,List.map_append],?_⟩
        rw [step]
        exact qP (qP ((hrows.same sT).nO hwT sx3) (hr2.nO hwT sx3)) (hb2.nO hwT sx3)
      · rintro σ H' ⟨v5,v6,v7,rfl,sx,ts,hw,hrows⟩
        refine ⟨_,rfl,k wl ts H' hwl0 (dH.same hwl0 (s13.trans s5) sx) hw ?_ (Jk hw hrows)⟩
        rw [List.length_map,hpl,show (kids e).length=((kids e).map (Vbdeam.codeOf n)).length by rw [List.length_map],List.take_length,show ((kids e).map (Vbdeam.codeOf n)).length=os.length by rw [List.length_map,hol],List.take_length,hgl] at hrows
        exact hrows
end
def Il:Sp:=fun vs H Q _=>∃ (l:Addr) (ts:List Addr) (rows:List (List Int)),vs=[.ref l]∧H l=some (.lst (ts.map V.ref))∧Paired (fun row t=>H t=some (.tup (vI row))) rows ts∧rows.flatten.length≤2000000∧vG H Q (vI rows.flatten)
abbrev nT:Stmt:=top 47
theorem Qc (a b:Text):vI (a++b)=vI a++vI b:=List.map_append
theorem uM:∀ (l:List (List Int)) (i:Nat),(l.take i).flatten.length≤l.flatten.length
  | [],i=>by rw [List.take_nil]; exact Nat.le_refl _
  | a :: l,0=>Nat.zero_le _
  | a :: l,i+1=>by
    have:=uM l i
    show (a++(l.take i).flatten).length≤(a++l.flatten).length
    rw [List.length_append,List.length_append]
    omega
section
variable {P:Program} {w:World} {K:PySem.W.Frag} {mg:Str→Option Value} {base:Heap}
theorem tY:aN ["rows","whole","row"] ["rows"] (aD nT):=⟨rfl,rfl,rfl,by decide +kernel,rfl,by decide +kernel,by decide +kernel⟩
theorem FT {f:Addr} {fd:FuncData} (F:Fn K mg "joined" nT f fd ["rows"]):aL P w K mg base (bh P w) 1 f fd ["rows"] Il:=by
  refine fV F.F tY (fun vs H Q E h=>?_) (fun cdv A outer s H vs Q E hr h=>?_)
  · obtain ⟨_,_,_,rfl,_⟩:=h
    rfl
  · obtain ⟨l,ts,rows,rfl,hl,hp,hlen,k⟩:=h
    refine ⟨_,aj (aW (i:=1) tY.nd rfl (Or.inl rfl) (bW aq))
      (aj (jV pQ rfl (ir (pv 0)) (bQ (i:=2) tY.nd rfl (Or.inl rfl))
        (ao (bf (iU PySem.F.plainAttrs_list PySem.F.slot_list_extend PySem.F.type_list_extend Br (pv 1) (aa (pv 2) aq)))))
      (ao (aJ (pv 1)))),?_⟩
    refine ⟨(by show 0≤sizeLine; decide),fun wl hwl=>?_⟩
    have s1:az H (L2.upd H wl (.lst [])):=az.upd hwl
    refine ⟨_,rfl,l,rfl,⟨_,bG.of (s1 _ _ hl)⟩,uL (K:=K) (a:=l) (xs:=ts.map V.ref)
      (fun i σ H'=>∃ v2:Option V,σ=[some (.ref l),some (.ref wl),v2]∧az H H'∧H' wl=some (.lst (vI (rows.take i).flatten)))
      ⟨none,rfl,s1,ak⟩ (fun i σ H' _ ⟨_,_,s2,_⟩=>bG.of (s2 _ _ hl)) ?_ ?_⟩
    · rintro i x σ H' hi ⟨v2,rfl,s2,hw⟩
      obtain ⟨t,ht,rfl⟩:=jg hi
      have il:i < rows.length:=by rw [Paired.length hp]; exact (List.getElem?_eq_some_iff.mp ht).1
      obtain ⟨row,hrow⟩:∃ row,rows[i]?=some row:=⟨_,List.getElem?_eq_getElem il⟩
      obtain ⟨t',ht',hH⟩:=cM hp hrow
      rw [ht] at ht'
      cases ht'
      have step:(rows.take (i+1)).flatten=(rows.take i).flatten++row:=by
        rw [List.take_succ,hrow]
        simp
      have bnd:=uM rows (i+1)
      rw [step,List.length_append] at bnd
      refine ⟨_,rfl,.inl ⟨rfl,_,bG.of hw⟩,_,rfl,wl,t,_,_,rfl,rfl,hw,dY.of (s2 _ _ hH),?_,?_⟩
      · rw [dg,dg]
        exact Nat.le_trans (by omega:_≤2000000) (by decide)
      · refine ⟨_,rfl,fun c o q=>by rw [au (aB q hwl)]; exact s2 _ _ q,?_⟩
        rw [ak,step,Qc]
    · rintro σ H' ⟨v2,rfl,s2,hw⟩
      rw [List.length_map,← Paired.length hp,List.take_length] at hw
      exact ⟨_,rfl,k wl H' hwl s2 hw⟩
end
theorem wk:∀ c:Vbdeaa.Code,(fX c).flatten.length≤3 * c.length
  | []=>Nat.le_refl _
  | i :: c=>by
    have:=wk c
    show (i.told++(fX c).flatten).length≤3 * (c.length+1)
    rw [List.length_append]
    have:i.told.length≤3:=by cases i <;> simp [Ins.told]
    omega
theorem Em (c:Vbdeaa.Code):Vbdeaa.toldCode c=(fX c).flatten:=by
  unfold Vbdeaa.toldCode fX
  rw [List.flatMap_def]
def tQ (C:Addr):Sp:=fun vs H Q _=>∃ (a:Addr) (e:Exp) (n:Nat),vs=[.ref a,.int n]∧n≤8∧aV C H e a∧MX.Kn n e∧e.height≤32∧Vbdeam.size e≤100000∧vG H Q (vI (Vbdeam.numbers n e))
abbrev nU:Stmt:=top 48
section
variable {P:Program} {w:World} {K:PySem.W.Frag} {mg:Str→Option Value} {base:Heap}
theorem I_:aN ["node","n"] ["node","n"] (aD nU):=⟨rfl,rfl,rfl,by decide +kernel,rfl,by decide +kernel,by decide +kernel⟩
theorem FZ {f C fI fJ:Addr} {fd dI dJ:FuncData} (F:Fn K mg "code_of" nU f fd ["node","n"]) (FI:Fn K mg "instructions_of" ud fI dI ["node","n"]) (GI:aL P w K mg base (bh P w) 39 fI dI ["node","n"] (rT C 32)) (FJ:Fn K mg "joined" nT fJ dJ ["rows"]):aL P w K mg base (bh P w) 40 f fd ["node","n"] (tQ C):=by
  have GJ:aL P w K mg base (bh P w) 1 fJ dJ _ _:=FT FJ
  refine fV F.F I_ (fun vs H Q E h=>?_) (fun cdv A outer s H vs Q E hr h=>?_)
  · obtain ⟨_,_,_,rfl,_⟩:=h
    rfl
  · obtain ⟨a,e,n,rfl,hn8,hn,hkn,hh,hsz,k⟩:=h
    have hr1:bH 1 _:=hr.mono (by omega)
    refine ⟨_,ao (aJ (aQ GJ hr1 rfl FJ.m FJ.F.kp FJ.b .nil passes (aa (aQ GI hr rfl FI.m FI.F.kp FI.b .nil passes (aa (pv 0) (aa (pv 1) aq))) aq))),?_⟩
    refine ⟨_,rfl,_,rfl,a,e,n,rfl,hn8,hn,hkn,hh,hsz,fun l ts H1 hl s1 hl1 hrows hnot=>?_⟩
    have h1:=wk (Vbdeam.codeOf n e)
    have h2:=dh n e
    refine ⟨l,ts,fX (Vbdeam.codeOf n e),rfl,hl1,hrows,by omega,fun l2 H2 hl2 s2 h22=>k l2 H2 (same_none s1 hl2) (s1.trans s2) ?_⟩
    rw [h22]
    unfold Vbdeam.numbers
    rw [Em]
end
theorem Eh {n:Int} (h:¬ (0≤n∧n≤8)):Vbdeam.within n 0 8=false:=by
  unfold Vbdeam.within
  by_cases h0:0≤n
  · rw [decide_eq_false (show ¬ n≤8 by omega),Bool.and_false]
  · rw [decide_eq_false h0,Bool.false_and]
theorem Aa {n:Nat} (h:n≤8):Vbdeam.within (n:Int) 0 8=true:=by
  unfold Vbdeam.within
  rw [decide_eq_true (show (0:Int)≤n by omega),decide_eq_true (show (n:Int)≤8 by omega)]
  rfl
theorem vM {n:Nat} {code:List Int} (hl:¬ code.length≤500):Vbdeam.taken n code=.error (-2):=by
  unfold Vbdeam.taken
  rw [if_pos (show Vbdeam.LONGCODE < code.length by unfold Vbdeam.LONGCODE; omega)]
theorem qI {n:Nat} {code:List Int} (hl:code.length≤500) (he:Vbdeam.expOf n code=none):Vbdeam.taken n code=.error (-3):=by
  unfold Vbdeam.taken
  rw [if_neg (show ¬ Vbdeam.LONGCODE < code.length by unfold Vbdeam.LONGCODE; omega),he]
theorem tD {n:Nat} {code:List Int} {e:Exp} (h:n≤8) (hl:code.length≤500) (he:Vbdeam.expOf n code=some e) (hd:¬ gQ e):Vbdeam.taken n code=.error (-4):=by
  unfold Vbdeam.taken
  rw [if_neg (show ¬ Vbdeam.LONGCODE < code.length by unfold Vbdeam.LONGCODE; omega),he]
  simp only
  rw [if_neg (fun z=>hd ((lC (lq h he).1).mp z))]
theorem tE {n:Nat} {code:List Int} {e:Exp} (h:n≤8) (hl:code.length≤500) (he:Vbdeam.expOf n code=some e) (hd:gQ e):Vbdeam.taken n code=.ok e:=by
  unfold Vbdeam.taken
  rw [if_neg (show ¬ Vbdeam.LONGCODE < code.length by unfold Vbdeam.LONGCODE; omega),he]
  simp only
  rw [if_pos ((lC (lq h he).1).mpr hd)]
theorem zA {n:Nat} {code:List Int} {e:Exp} (h:Vbdeam.expOf n code=some e):MX.Kn n e:=by
  unfold Vbdeam.expOf at h
  obtain ⟨c,hc,ht⟩:=Option.bind_eq_some_iff.mp h
  exact MX.Qx (MX.jH.mp ht) fun x hx=>by cases hx
mutual
def bT:Exp→List Exp
  | .num q=>[.num q]
  | .name n=>[.name n]
  | .un o a=>.un o a :: bT a
  | .bin o a b=>.bin o a b :: (bT a++bT b)
  | .and a b=>.and a b :: (bT a++bT b)
  | .or a b=>.or a b :: (bT a++bT b)
  | .cond c a b=>.cond c a b :: (bT c++(bT a++bT b))
  | .best g l=>.best g l :: o9 l
  | .use n l=>.use n l :: o9 l
def o9:Exps→List Exp
  | .nil=>[]
  | .cons e l=>bT e++o9 l
end
theorem mU:∀ l:Exps,o9 l=((j6 l).map bT).flatten
  | .nil=>rfl
  | .cons e l=>by
    show bT e++o9 l=bT e++((j6 l).map bT).flatten
    rw [mU l]
theorem wD (e:Exp):bT e=e :: ((kids e).map bT).flatten:=by
  cases e with
  | num q=>rfl
  | name n=>rfl
  | un o a=>show _ :: bT a=_ :: (bT a++[]); rw [List.append_nil]
  | bin o a b=>show _ :: (bT a++bT b)=_ :: (bT a++(bT b++[])); rw [List.append_nil]
  | and a b=>show _ :: (bT a++bT b)=_ :: (bT a++(bT b++[])); rw [List.append_nil]
  | or a b=>show _ :: (bT a++bT b)=_ :: (bT a++(bT b++[])); rw [List.append_nil]
  | cond c a b=>show _ :: (bT c++(bT a++bT b))=_ :: (bT c++(bT a++(bT b++[]))); rw [List.append_nil]
  | best g l=>show _ :: o9 l=_; rw [mU]; rfl
  | use n l=>show _ :: o9 l=_; rw [mU]; rfl
mutual
theorem cT:∀ e:Exp,(bT e).length=Vbdeam.size e
  | .num q=>rfl
  | .name n=>rfl
  | .un o a=>by have:=cT a; simp only [bT,Vbdeam.size,List.length_cons]; omega
  | .bin o a b=>by have:=cT a; have:=cT b; simp only [bT,Vbdeam.size,List.length_cons,List.length_append]; omega
  | .and a b=>by have:=cT a; have:=cT b; simp only [bT,Vbdeam.size,List.length_cons,List.length_append]; omega
  | .or a b=>by have:=cT a; have:=cT b; simp only [bT,Vbdeam.size,List.length_cons,List.length_append]; omega
  | .cond c a b=>by have:=cT c; have:=cT a; have:=cT b; simp only [bT,Vbdeam.size,List.length_cons,List.length_append]; omega
  | .best g l=>by have:=qC l; simp only [bT,Vbdeam.size,List.length_cons]; omega
  | .use n l=>by have:=qC l; simp only [bT,Vbdeam.size,List.length_cons]; omega
theorem qC:∀ l:Exps,(o9 l).length=Vbdeam.sizeAll l
  | .nil=>rfl
  | .cons e l=>by have:=cT e; have:=qC l; simp only [o9,Vbdeam.sizeAll,List.length_append]; omega
end
theorem wj {α:Type}:∀ (l:List (List α)) (i:Nat),(l.take i).flatten.length≤l.flatten.length
  | [],i=>by rw [List.take_nil]; exact Nat.le_refl _
  | a :: l,0=>Nat.zero_le _
  | a :: l,i+1=>by
    have:=wj l i
    show (a++(l.take i).flatten).length≤(a++l.flatten).length
    rw [List.length_append,List.length_append]
    omega
theorem uq {α β:Type} {F:α→β→Prop}:∀ {l:List α} {m:List β} {l2:List α} {m2:List β},Paired F l m→Paired F l2 m2→Paired F (l++l2) (m++m2)
  | _,_,_,_,.nil,h=>h
  | _,_,_,_,.cons r t,h=>.cons r (uq t h)
def Cz (C:Addr) (h:Nat):Sp:=fun vs H Q _=>∃ (a:Addr) (e:Exp) (H0:Hp),vs=[.ref a]∧az H0 H∧aV C H0 e a∧e.height≤h∧Vbdeam.size e≤100000 ∧
  ∀ l bs H',H l=none→az H H'→H' l=some (.lst (bs.map V.ref))→Paired (aV C H0) (bT e) bs→Q (.ref l) H'
abbrev Fd:Stmt:=top 50
section
variable {P:Program} {w:World} {K:PySem.W.Frag} {mg:Str→Option Value} {base:Heap}
theorem CW:aN ["node","found","part"] ["node"] (aD Fd):=⟨rfl,rfl,rfl,by decide +kernel,rfl,by decide +kernel,by decide +kernel⟩
theorem ok_all {f C:Addr} {fd:FuncData} (F:Fn K mg "all_parts" Fd f fd ["node"]) (N:kE K C):∀ h:Nat,aL P w K mg base (bh P w) (h+1) f fd ["node"] (Cz C h):=by
  intro h
  induction h with
  | zero =>
    refine fV F.F CW (fun vs H Q E h=>?_) (fun cdv A outer s H vs Q E hr h=>?_)
    · obtain ⟨_,_,_,rfl,_⟩:=h
      rfl
    · obtain ⟨a,e,H0,rfl,_,hn,hh,k⟩:=h
      have:0 < e.height:=by rw [fj]; omega
      omega
  | succ h ih =>
    refine fV F.F CW (fun vs H Q E h=>?_) (fun cdv A outer s H vs Q E hr h=>?_)
    · obtain ⟨_,_,_,rfl,_⟩:=h
      rfl
    · obtain ⟨a,e,H0,rfl,s0,hn,hh,hsz,k⟩:=h
      obtain ⟨dx,D,l,as,h1,hD,hl,hp⟩:=fD hn
      refine ⟨_,aj (aW (i:=1) CW.nd rfl (Or.inl rfl) (bW (aa (pv 0) aq)))
        (aj (jV pQ rfl (ir (aF (pv 0) rfl)) (bQ (i:=2) CW.nd rfl (Or.inl rfl))
          (ao (bf (iU PySem.F.plainAttrs_list PySem.F.slot_list_extend PySem.F.type_list_extend pX (pv 1) (aa (aQ ih hr rfl F.m F.F.kp F.b .nil passes (aa (pv 2) aq)) aq)))))
        (ao (aJ (pv 1)))),?_⟩
      have hsum:(e :: ((kids e).map bT).flatten).length≤100000:=by rw [← wD,cT]; exact hsz
      refine ⟨_,rfl,(by show 1≤sizeLine; decide),fun fl hfl=>?_⟩
      have s1:az H (L2.upd H fl (.lst [V.ref a])):=az.upd hfl
      refine ⟨_,rfl,a,C,dx,_,_,rfl,s1 _ _ (s0 _ _ h1),N.cl,N.nP,rfl,l,rfl,⟨_,bG.of (s1 _ _ (s0 _ _ hl))⟩,uL (K:=K) (a:=l) (xs:=as.map V.ref)
        (fun i σ H'=>∃ v2:Option V,σ=[some (.ref a),some (.ref fl),v2]∧az H H'∧∃ bs:List Addr,H' fl=some (.lst (bs.map V.ref))∧Paired (aV C H0) (e :: (((kids e).map bT).take i).flatten) bs)
        ⟨none,rfl,s1,[a],ak,.cons hn .nil⟩ (fun i σ H' _ ⟨_,_,s2,_⟩=>bG.of (s2 _ _ (s0 _ _ hl))) ?_ ?_⟩
      · rintro i x σ H' hi ⟨v2,rfl,s2,bs,hf,hbs⟩
        obtain ⟨b,hb,rfl⟩:=jg hi
        obtain ⟨kd,hkd,hnb⟩:=uE hp hb
        have hkm:=List.mem_of_getElem? hkd
        have e1:((kids e).map bT)[i]?=some (bT kd):=by rw [List.getElem?_map,hkd]; rfl
        refine ⟨_,rfl,.inl ⟨rfl,_,bG.of hf⟩,_,rfl,b,kd,H0,rfl,s0.trans s2,hnb,by have:=di hkm; omega,by have:=oO hkm; omega,fun pl cs H2 hpl s3 hpl2 hcs=>?_⟩
        have hf2:=s3 _ _ hf
        have step:e :: (((kids e).map bT).take (i+1)).flatten=(e :: (((kids e).map bT).take i).flatten)++bT kd:=by
          rw [List.take_succ,e1]
          simp
        have hb1:=Paired.length hbs
        have hb2:=Paired.length hcs
        have bnd:=wj ((kids e).map bT) (i+1)
        have bnd2:(e :: (((kids e).map bT).take (i+1)).flatten).length≤100000:=by
          rw [List.length_cons] at hsum ⊢
          omega
        rw [step,List.length_append] at bnd2
        refine ⟨fl,pl,_,_,rfl,rfl,hf2,hpl2,?_,?_⟩
        · rw [List.length_map,List.length_map]
          exact Nat.le_trans (by omega:_≤100000) (by decide)
        · refine ⟨_,rfl,fun b o q=>?_,bs++cs,by rw [ak,List.map_append],?_⟩
          · rw [au (aB q hfl)]
            exact s3 _ _ (s2 _ _ q)
          · rw [step]
            exact uq hbs hcs
      · rintro σ H' ⟨v2,rfl,s2,bs,hf,hbs⟩
        rw [List.length_map,← Paired.length hp,show (kids e).length=((kids e).map bT).length by rw [List.length_map],List.take_length,← wD] at hbs
        exact ⟨_,rfl,k fl bs H' hfl s2 hf hbs⟩
end
mutual
def bA (x:Exp) (i:Int):Exp→Exp
  | .num q=>if i=0 then x else .num q
  | .name n=>if i=0 then x else .name n
  | .un o a=>if i=0 then x else .un o (bA x (i - 1) a)
  | .bin o a b=>if i=0 then x else .bin o (bA x (i - 1) a) (bA x (i - 1 - Vbdeam.size a) b)
  | .and a b=>if i=0 then x else .and (bA x (i - 1) a) (bA x (i - 1 - Vbdeam.size a) b)
  | .or a b=>if i=0 then x else .or (bA x (i - 1) a) (bA x (i - 1 - Vbdeam.size a) b)
  | .cond c a b=>if i=0 then x else .cond (bA x (i - 1) c) (bA x (i - 1 - Vbdeam.size c) a) (bA x (i - 1 - Vbdeam.size c - Vbdeam.size a) b)
  | .best g l=>if i=0 then x else .best g (gO x (i - 1) l)
  | .use n l=>if i=0 then x else .use n (gO x (i - 1) l)
def gO (x:Exp) (i:Int):Exps→Exps
  | .nil=>.nil
  | .cons e l=>.cons (bA x i e) (gO x (i - Vbdeam.size e) l)
end
mutual
theorem bw (x:Exp):∀ (e:Exp) (i:Int),(i < 0∨(Vbdeam.size e:Int)≤i)→bA x i e=e
  | .num q,i,h=>by simp only [Vbdeam.size] at h; unfold bA; rw [if_neg (by omega)]
  | .name n,i,h=>by simp only [Vbdeam.size] at h; unfold bA; rw [if_neg (by omega)]
  | .un o a,i,h=>by simp only [Vbdeam.size] at h; unfold bA; rw [if_neg (by omega),bw x a _ (by omega)]
  | .bin o a b,i,h=>by simp only [Vbdeam.size] at h; unfold bA; rw [if_neg (by omega),bw x a _ (by omega),bw x b _ (by omega)]
  | .and a b,i,h=>by simp only [Vbdeam.size] at h; unfold bA; rw [if_neg (by omega),bw x a _ (by omega),bw x b _ (by omega)]
  | .or a b,i,h=>by simp only [Vbdeam.size] at h; unfold bA; rw [if_neg (by omega),bw x a _ (by omega),bw x b _ (by omega)]
  | .cond c a b,i,h=>by simp only [Vbdeam.size] at h; unfold bA; rw [if_neg (by omega),bw x c _ (by omega),bw x a _ (by omega),bw x b _ (by omega)]
  | .best g l,i,h=>by simp only [Vbdeam.size] at h; unfold bA; rw [if_neg (by omega),lu x l _ (by omega)]
  | .use n l,i,h=>by simp only [Vbdeam.size] at h; unfold bA; rw [if_neg (by omega),lu x l _ (by omega)]
theorem lu (x:Exp):∀ (l:Exps) (i:Int),(i < 0∨(Vbdeam.sizeAll l:Int)≤i)→gO x i l=l
  | .nil,i,h=>rfl
  | .cons e l,i,h=>by simp only [Vbdeam.sizeAll] at h; unfold gO; rw [bw x e _ (by omega),lu x l _ (by omega)]
end
mutual
theorem du (x:Exp):∀ (e:Exp) (i:Nat),i < Vbdeam.size e→bA x (i:Int) e=Vbdeam.putAt x i e
  | e,0,h=>by
    have h1:bA x ((0:Nat):Int) e=x:=by cases e <;> (unfold bA; rfl)
    have h2:Vbdeam.putAt x 0 e=x:=by unfold Vbdeam.putAt; rfl
    rw [h1,h2]
  | .num q,i+1,h=>by simp only [Vbdeam.size] at h; omega
  | .name n,i+1,h=>by simp only [Vbdeam.size] at h; omega
  | .un o a,i+1,h=>by
    simp only [Vbdeam.size] at h
    unfold bA Vbdeam.putAt
    rw [if_neg (by omega),show ((i+1:Nat):Int) - 1=(i:Nat) by omega,du x a i (by omega)]
  | .bin o a b,i+1,h=>by
    simp only [Vbdeam.size] at h
    unfold bA Vbdeam.putAt
    rw [if_neg (by omega),show ((i+1:Nat):Int) - 1=(i:Nat) by omega]
    by_cases c:i < Vbdeam.size a
    · rw [if_pos c,du x a i c,bw x b _ (by omega)]
    · rw [if_neg c,bw x a _ (by omega),show (i:Int) - (Vbdeam.size a:Int)=((i - Vbdeam.size a:Nat):Int) by omega,du x b (i - Vbdeam.size a) (by omega)]
  | .and a b,i+1,h=>by
    simp only [Vbdeam.size] at h
    unfold bA Vbdeam.putAt
    rw [if_neg (by omega),show ((i+1:Nat):Int) - 1=(i:Nat) by omega]
    by_cases c:i < Vbdeam.size a
    · rw [if_pos c,du x a i c,bw x b _ (by omega)]
    · rw [if_neg c,bw x a _ (by omega),show (i:Int) - (Vbdeam.size a:Int)=((i - Vbdeam.size a:Nat):Int) by omega,du x b (i - Vbdeam.size a) (by omega)]
  | .or a b,i+1,h=>by
    simp only [Vbdeam.size] at h
    unfold bA Vbdeam.putAt
    rw [if_neg (by omega),show ((i+1:Nat):Int) - 1=(i:Nat) by omega]
    by_cases c:i < Vbdeam.size a
    · rw [if_pos c,du x a i c,bw x b _ (by omega)]
    · rw [if_neg c,bw x a _ (by omega),show (i:Int) - (Vbdeam.size a:Int)=((i - Vbdeam.size a:Nat):Int) by omega,du x b (i - Vbdeam.size a) (by omega)]
  | .cond d a b,i+1,h=>by
    simp only [Vbdeam.size] at h
    unfold bA Vbdeam.putAt
    rw [if_neg (by omega),show ((i+1:Nat):Int) - 1=(i:Nat) by omega]
    by_cases c:i < Vbdeam.size d
    · rw [if_pos c,du x d i c,bw x a _ (by omega),bw x b _ (by omega)]
    · rw [if_neg c,bw x d _ (by omega),show (i:Int) - (Vbdeam.size d:Int)=((i - Vbdeam.size d:Nat):Int) by omega]
      by_cases c2:i < Vbdeam.size d+Vbdeam.size a
      · rw [if_pos c2,du x a (i - Vbdeam.size d) (by omega),bw x b _ (by omega)]
      · rw [if_neg c2,bw x a _ (by omega),show ((i - Vbdeam.size d:Nat):Int) - (Vbdeam.size a:Int)=((i - Vbdeam.size d - Vbdeam.size a:Nat):Int) by omega,du x b (i - Vbdeam.size d - Vbdeam.size a) (by omega)]
  | .best g l,i+1,h=>by
    simp only [Vbdeam.size] at h
    unfold bA Vbdeam.putAt
    rw [if_neg (by omega),show ((i+1:Nat):Int) - 1=(i:Nat) by omega,qm x l i (by omega)]
  | .use n l,i+1,h=>by
    simp only [Vbdeam.size] at h
    unfold bA Vbdeam.putAt
    rw [if_neg (by omega),show ((i+1:Nat):Int) - 1=(i:Nat) by omega,qm x l i (by omega)]
theorem qm (x:Exp):∀ (l:Exps) (i:Nat),i < Vbdeam.sizeAll l→gO x (i:Int) l=Vbdeam.putAtAll x i l
  | .nil,i,h=>by simp only [Vbdeam.sizeAll] at h; omega
  | .cons e l,i,h=>by
    simp only [Vbdeam.sizeAll] at h
    unfold gO Vbdeam.putAtAll
    by_cases c:i < Vbdeam.size e
    · rw [if_pos c,du x e i c,lu x l _ (by omega)]
    · rw [if_neg c,bw x e _ (by omega),show (i:Int) - (Vbdeam.size e:Int)=((i - Vbdeam.size e:Nat):Int) by omega,qm x l (i - Vbdeam.size e) (by omega)]
end
def lU (x:Exp) (i:Int):List Exp→List Exp
  | []=>[]
  | e :: l=>bA x i e :: lU x (i - Vbdeam.size e) l
theorem xQ (x:Exp):∀ (l:Exps) (i:Int),j6 (gO x i l)=lU x i (j6 l)
  | .nil,i=>rfl
  | .cons e l,i=>by
    show bA x i e :: j6 (gO x (i - Vbdeam.size e) l)=bA x i e :: lU x (i - Vbdeam.size e) (j6 l)
    rw [xQ x l]
theorem Hb (x e:Exp):bA x 0 e=x:=by cases e <;> (unfold bA; rfl)
theorem Hc (x:Exp) {i:Int} (h:i≠0) (e:Exp):kids (bA x i e)=lU x (i - 1) (kids e)∧fH (bA x i e)=fH e:=by
  cases e with
  | best g l=>unfold bA; rw [if_neg h]; exact ⟨xQ x l _,rfl⟩
  | use n l=>unfold bA; rw [if_neg h]; exact ⟨xQ x l _,rfl⟩
  | _=>unfold bA; rw [if_neg h]; exact ⟨rfl,rfl⟩
theorem lz (x:Exp):∀ (l:List Exp) (i:Int),(lU x i l).length=l.length
  | [],_=>rfl
  | e :: l,i=>by show (lU x _ l).length+1=l.length+1; rw [lz x l]
theorem ww (x:Exp):∀ (l:List Exp) (i:Int) (j:Nat) (k:Exp),l[j]?=some k→(lU x i l)[j]?=some (bA x (i - (((l.take j).map Vbdeam.size).sum:Nat)) k)
  | [],i,j,k,h=>by cases h
  | e :: l,i,0,k,h=>by
    have:e=k:=by simpa using h
    subst this
    show some (bA x i e)=_
    rw [show i - ((((e :: l).take 0).map Vbdeam.size).sum:Nat)=i by simp]
  | e :: l,i,j+1,k,h=>by
    show (lU x (i - Vbdeam.size e) l)[j]?=_
    rw [ww x l (i - Vbdeam.size e) j k (by simpa using h)]
    congr 2
    rw [List.take_succ_cons,List.map_cons,List.sum_cons]
    omega
mutual
theorem dw {x:Exp} (hx:MX.i_ x):∀ (e:Exp) (i:Int),MX.i_ e→MX.i_ (bA x i e)
  | .num q,i,h=>by unfold bA; split <;> first | exact hx | exact h
  | .name n,i,h=>by unfold bA; split <;> first | exact hx | exact h
  | .un o a,i,h=>by unfold bA; split <;> first | exact hx | exact dw hx a _ h
  | .bin o a b,i,h=>by unfold bA; split <;> first | exact hx | exact ⟨dw hx a _ h.1,dw hx b _ h.2⟩
  | .and a b,i,h=>by unfold bA; split <;> first | exact hx | exact ⟨dw hx a _ h.1,dw hx b _ h.2⟩
  | .or a b,i,h=>by unfold bA; split <;> first | exact hx | exact ⟨dw hx a _ h.1,dw hx b _ h.2⟩
  | .cond c a b,i,h=>by unfold bA; split <;> first | exact hx | exact ⟨dw hx c _ h.1,dw hx a _ h.2.1,dw hx b _ h.2.2⟩
  | .best g l,i,h=>by unfold bA; split <;> first | exact hx | exact ⟨qp hx l _ h.1,by cases l with | nil=>exact absurd rfl h.2 | cons a r=>simp [gO]⟩
  | .use n l,i,h=>by unfold bA; split <;> first | exact hx | exact ⟨h.1,qp hx l _ h.2.1,by cases l with | nil=>exact absurd rfl h.2.2 | cons a r=>simp [gO]⟩
theorem qp {x:Exp} (hx:MX.i_ x):∀ (l:Exps) (i:Int),MX.yl l→MX.yl (gO x i l)
  | .nil,i,h=>trivial
  | .cons e l,i,h=>⟨dw hx e _ h.1,qp hx l _ h.2⟩
end
theorem wu (x:Exp):∀ (l:Exps) (i:Int),(gO x i l).length=l.length
  | .nil,_=>rfl
  | .cons e l,i=>by show (gO x _ l).length+1=l.length+1; rw [wu x l]
mutual
theorem eV {n:Nat} {x:Exp} (hx:MX.Kn n x):∀ (e:Exp) (i:Int),MX.Kn n e→MX.Kn n (bA x i e)
  | .num q,i,h=>by unfold bA; split <;> first | exact hx | exact h
  | .name t,i,h=>by unfold bA; split <;> first | exact hx | exact h
  | .un o a,i,h=>by unfold bA; split <;> first | exact hx | exact eV hx a _ h
  | .bin o a b,i,h=>by unfold bA; split <;> first | exact hx | exact ⟨eV hx a _ h.1,eV hx b _ h.2⟩
  | .and a b,i,h=>by unfold bA; split <;> first | exact hx | exact ⟨eV hx a _ h.1,eV hx b _ h.2⟩
  | .or a b,i,h=>by unfold bA; split <;> first | exact hx | exact ⟨eV hx a _ h.1,eV hx b _ h.2⟩
  | .cond c a b,i,h=>by unfold bA; split <;> first | exact hx | exact ⟨eV hx c _ h.1,eV hx a _ h.2.1,eV hx b _ h.2.2⟩
  | .best g l,i,h=>by unfold bA; split <;> first | exact hx | exact uN hx l _ h
  | .use t l,i,h=>by unfold bA; split <;> first | exact hx | exact ⟨by rw [wu]; exact h.1,uN hx l _ h.2⟩
theorem uN {n:Nat} {x:Exp} (hx:MX.Kn n x):∀ (l:Exps) (i:Int),MX.RC n l→MX.RC n (gO x i l)
  | .nil,i,h=>trivial
  | .cons e l,i,h=>⟨eV hx e _ h.1,uN hx l _ h.2⟩
end
mutual
theorem dq (x:Exp):∀ (e:Exp) (i:Nat),Vbdeam.size (Vbdeam.putAt x i e)≤Vbdeam.size e+Vbdeam.size x
  | e,0=>by
    have h2:Vbdeam.putAt x 0 e=x:=by unfold Vbdeam.putAt; rfl
    rw [h2]; omega
  | .num q,i+1=>by unfold Vbdeam.putAt; omega
  | .name n,i+1=>by unfold Vbdeam.putAt; omega
  | .un o a,i+1=>by have:=dq x a i; unfold Vbdeam.putAt; simp only [Vbdeam.size]; omega
  | .bin o a b,i+1=>by
    have:=dq x a i; have:=dq x b (i - Vbdeam.size a)
    unfold Vbdeam.putAt; split <;> (simp only [Vbdeam.size]; omega)
  | .and a b,i+1=>by
    have:=dq x a i; have:=dq x b (i - Vbdeam.size a)
    unfold Vbdeam.putAt; split <;> (simp only [Vbdeam.size]; omega)
  | .or a b,i+1=>by
    have:=dq x a i; have:=dq x b (i - Vbdeam.size a)
    unfold Vbdeam.putAt; split <;> (simp only [Vbdeam.size]; omega)
  | .cond d a b,i+1=>by
    have:=dq x d i; have:=dq x a (i - Vbdeam.size d); have:=dq x b (i - Vbdeam.size d - Vbdeam.size a)
    unfold Vbdeam.putAt; split
    · simp only [Vbdeam.size]; omega
    · split <;> (simp only [Vbdeam.size]; omega)
  | .best g l,i+1=>by have:=pN x l i; unfold Vbdeam.putAt; simp only [Vbdeam.size]; omega
  | .use n l,i+1=>by have:=pN x l i; unfold Vbdeam.putAt; simp only [Vbdeam.size]; omega
theorem pN (x:Exp):∀ (l:Exps) (i:Nat),Vbdeam.sizeAll (Vbdeam.putAtAll x i l)≤Vbdeam.sizeAll l+Vbdeam.size x
  | .nil,i=>by unfold Vbdeam.putAtAll; omega
  | .cons e l,i=>by
    have:=dq x e i; have:=pN x l (i - Vbdeam.size e)
    unfold Vbdeam.putAtAll; split <;> (simp only [Vbdeam.sizeAll]; omega)
end
theorem gb.same {M:List Addr} {H H':Hp} (k:gb M H H'):az H H':=fun b o e=>by
  by_cases hb:b∈M
  · rw [k.ins b hb]; exact e
  · exact aO _ _ _ _ (k.out b o (cz e hb))
theorem yV {M:List Addr} {p:Addr} {H:Hp}:az (off (p :: M) H) (off M H):=fun b o e=>cz (aO _ _ _ _ e) fun z=>jj e (List.mem_cons_of_mem _ z)
theorem Np {M:List Addr} {p:Addr} {H:Hp} {o:HO} (h:H p=none):az (off M H) (off (p :: M) (L2.upd H p o)):=fun b u e=>by
  have hb:=jj e
  have e0:=aO _ _ _ _ e
  have nb:b≠p:=aB e0 h
  refine cz (by rw [au nb]; exact e0) fun z=>?_
  rcases List.mem_cons.mp z with z | z
  · exact nb z
  · exact hb z
theorem KH {H:Hp} {x e:Exp} {i:Int} {D:V} (hi:i≠0) (h:jC H e D):jC H (bA x i e) D:=by
  cases e <;> (unfold bA; rw [if_neg hi]; exact h)
def Aq (C:Addr) (h:Nat):Sp:=fun vs H Q _=>∃ (M:List Addr) (a b:Addr) (e x:Exp) (i:Int),vs=[.ref a,.int i,.ref b]∧(∀ c∈M,∃ o,H c=some o)∧aV C (off M H) e a∧aV C (off M H) x b∧e.height≤h∧Vbdeam.size e≤1900 ∧
  ∀ r H',gb M H H'→aV C (off M H') (bA x i e) r→Q (.ref r) H'
abbrev yH:Stmt:=top 51
section
variable {P:Program} {w:World} {K:PySem.W.Frag} {mg:Str→Option Value} {base:Heap}
theorem pI:aN ["node","number","other","left","parts","part"] ["node","number","other"] (aD yH):=⟨rfl,rfl,rfl,by decide +kernel,rfl,by decide +kernel,by decide +kernel⟩
theorem Nf {f C fN fA:Addr} {fd dN dA:FuncData} (F:Fn K mg "exchanged" yH f fd ["node","number","other"]) (N:kE K C) (NN:NK P w K mg base C fN dN) (hlen:mg "len"=none) (FA:Fn K mg "all_parts" Fd fA dA ["node"]) :
    ∀ h:Nat,aL P w K mg base (bh P w) (h+3) f fd ["node","number","other"] (Aq C h):=by
  intro h
  induction h with
  | zero =>
    refine fV F.F pI (fun vs H Q E h=>?_) (fun cdv A outer s H vs Q E hr h=>?_)
    · obtain ⟨_,_,_,_,_,_,rfl,_⟩:=h
      rfl
    · obtain ⟨M,a,b,e,x,i,rfl,_,_,_,hh,_⟩:=h
      have:0 < e.height:=by rw [fj]; omega
      omega
  | succ h ih =>
    have GA:aL P w K mg base (bh P w) (h+1) fA dA ["node"] (Cz C h):=ok_all FA N h
    refine fV F.F pI (fun vs H Q E h=>?_) (fun cdv A outer s H vs Q E hr h=>?_)
    · obtain ⟨_,_,_,_,_,_,rfl,_⟩:=h
      rfl
    · obtain ⟨M,a,b,e,x,i,rfl,hM,hn,hx,hh,hsz,k⟩:=h
      obtain ⟨dx,D,l,as,h1,hD,hl,hp⟩:=fD hn
      have hfew:=zp e
      have hrA:bH (h+1) _:=hr.mono (by omega)
      have hr2:bH 2 _:=hr.mono (by omega)
      refine ⟨_,aj (aY (aG bI (pv 1) aA (aK _)) (ao (aJ (pv 2))) aH)
        (aj (aW (i:=3) pI.nd rfl (Or.inl rfl) (cJ iH (pv 1) aA))
        (aj (aW (i:=4) pI.nd rfl (Or.inl rfl) (bW aq))
        (aj (jV pQ rfl (ir (aF (pv 0) rfl)) (bQ (i:=5) pI.nd rfl (Or.inl rfl))
          (aj (bf (iU PySem.F.plainAttrs_list PySem.F.slot_list_append PySem.F.type_list_append f9 (pv 4) (aa (aQ ih hr rfl F.m F.F.kp F.b .nil passes (aa (pv 5) (aa (pv 3) (aa (pv 2) aq)))) aq)))
            (ao (Bd (i:=3) pI.nd rfl (Or.inl rfl) (bJ bc (by rfl) hlen (by decide +kernel) (aa (aQ GA hrA rfl FA.m FA.F.kp FA.b .nil passes (aa (pv 5) aq)) aq)) Ra))))
        (ao (aJ (dz NN.mk_ NN.ok hr2 rfl NN.m NN.b .nil passes (aa (aF (pv 0) rfl) (aa (aF (pv 0) rfl) (aa (pv 4) aq))))))))),?_⟩
      refine ⟨_,rfl,rfl,_,rfl,bO (fun hc=>?_) fun hc=>?_⟩
      · have hi:i=0:=cZ (of_decide_eq_true hc)
        subst hi
        rw [Hb] at k
        exact ⟨_,rfl,k b H ⟨fun _ _=>rfl,az.refl _⟩ hx⟩
      have hi:i≠0:=fun z=>hc (decide_eq_true (by rw [z]))
      obtain ⟨ek,ef⟩:=Hc x hi e
      refine ⟨_,rfl,_,_,rfl,rfl,(by show 0≤sizeLine; decide),fun pl hpl=>?_⟩
      have s1:az H (L2.upd H pl (.lst [])):=az.upd hpl
      have plM:pl∉M:=fun z=>by obtain ⟨o,ho⟩:=hM pl z; rw [ho] at hpl; cases hpl
      have sG:az (off M H) (off (pl :: M) (L2.upd H pl (.lst []))):=Np hpl
      have hS:=aO M H
      refine ⟨_,rfl,a,C,dx,_,_,rfl,s1 _ _ (hS _ _ h1),N.cl,N.nP,rfl,l,rfl,⟨_,bG.of (s1 _ _ (hS _ _ hl))⟩,uL (K:=K) (a:=l) (xs:=as.map V.ref)
        (fun j σ H'=>∃ v5:Option V,σ=[some (.ref a),some (.int i),some (.ref b),some (.int (i - 1 - ((((kids e).take j).map Vbdeam.size).sum:Nat))),some (.ref pl),v5]∧az H H'∧az (off M H) (off (pl :: M) H')∧∃ rs:List Addr,H' pl=some (.lst (rs.map V.ref))∧Paired (aV C (off (pl :: M) H')) ((lU x (i - 1) (kids e)).take j) rs)
        ⟨none,by simp; rfl,s1,sG,[],ak,.nil⟩ (fun j σ H' _ ⟨_,_,s2,_⟩=>bG.of (s2 _ _ (hS _ _ hl))) ?_ ?_⟩
      · rintro j y σ H' hj ⟨v5,rfl,s2,sg,rs,hpl1,hrs⟩
        obtain ⟨p,hpj,rfl⟩:=jg hj
        obtain ⟨kd,hkd,hnp⟩:=uE hp hpj
        have hkm:=List.mem_of_getElem? hkd
        have hj2:j < (kids e).length:=(List.getElem?_eq_some_iff.mp hkd).1
        have hM':∀ c∈pl :: M,∃ o,H' c=some o:=fun c hc=>by
          rcases List.mem_cons.mp hc with z | z
          · rw [z]; exact ⟨_,hpl1⟩
          · obtain ⟨o,ho⟩:=hM c z; exact ⟨o,s2 _ _ ho⟩
        have hrl:rs.length=j:=by rw [← Paired.length hrs,List.length_take,lz]; omega
        have e1:(lU x (i - 1) (kids e))[j]?=some (bA x (i - 1 - (((kids e).take j).map Vbdeam.size).sum) kd):=ww x (kids e) (i - 1) j kd hkd
        refine ⟨_,rfl,.inl ⟨rfl,_,bG.of hpl1⟩,_,rfl,_,rfl,_,rfl,pl :: M,p,b,kd,x,_,rfl,hM',hnp.same sg,hx.same sg,by have:=di hkm; omega,by have:=oO hkm; omega,fun r H2 k2 hr2=>?_⟩
        have hpl2:H2 pl=some (.lst (rs.map V.ref)):=k2.same _ _ hpl1
        refine ⟨pl,_,_,rfl,rfl,hpl2,?_,?_⟩
        · rw [List.length_map,hrl]
          exact Nat.lt_of_lt_of_le (by omega:j < 1900) (by decide)
        have oe:off (pl :: M) (L2.upd H2 pl (.lst (rs.map V.ref++[V.ref r])))=off (pl :: M) H2:=fu List.mem_cons_self
        have sg3:az (off M H) (off (pl :: M) (L2.upd H2 pl (.lst (rs.map V.ref++[V.ref r])))):=by rw [oe]; exact sg.trans k2.out
        have s3:az H (L2.upd H2 pl (.lst (rs.map V.ref++[V.ref r]))):=fun c o q=>by
          rw [au (aB q hpl)]
          exact k2.same _ _ (s2 _ _ q)
        refine ⟨_,rfl,_,rfl,p,kd,off (pl :: M) (L2.upd H2 pl (.lst (rs.map V.ref++[V.ref r]))),rfl,aO _ _,hnp.same sg3,by have:=di hkm; omega,by have:=oO hkm; omega,fun q bs H3 hq s4 hq3 hbs=>?_⟩
        have lb:=Paired.length hbs
        rw [cT] at lb
        refine ⟨q,_,rfl,.inl (bG.of hq3),_,_,rfl,rfl,?_⟩
        have k4:gb (pl :: M) (L2.upd H2 pl (.lst (rs.map V.ref++[V.ref r]))) H3:=gb.of_same (fun c hc=>by
          rcases List.mem_cons.mp hc with z | z
          · rw [z]; exact ⟨_,ak⟩
          · obtain ⟨o,ho⟩:=hM c z; exact ⟨o,s3 _ _ ho⟩) s4
        refine ⟨some (V.ref p),?_,s3.trans s4,sg3.trans k4.out,rs++[r],by rw [s4 _ _ ak,List.map_append]; rfl,?_⟩
        · have:i - 1 - ((((kids e).take j).map Vbdeam.size).sum:Nat) - ((bs.map V.ref).length:Nat)=i - 1 - ((((kids e).take (j+1)).map Vbdeam.size).sum:Nat):=by
            rw [List.take_succ,hkd,List.map_append,List.sum_append,List.length_map,← lb]
            simp
            omega
          rw [← this]
          rfl
        · rw [List.take_succ,e1]
          have sk:az (off (pl :: M) H2) (off (pl :: M) H3):=by rw [← oe]; exact k4.out
          exact cV (cR (k2.out.trans sk) hrs) (hr2.same sk)
      · rintro σ H' ⟨v5,rfl,s2,sg,rs,hpl1,hrs⟩
        rw [List.length_map,← Paired.length hp,← lz x (kids e) (i - 1),List.take_length,← ek] at hrs
        have h1':=s2 _ _ (hS _ _ h1)
        have hlr:=Paired.length hrs
        rw [ek,lz] at hlr
        refine ⟨_,rfl,a,C,dx,_,_,rfl,h1',N.cl,N.nF,rfl,_,rfl,a,C,dx,_,_,rfl,h1',N.cl,N.nD,rfl,_,rfl,?_⟩
        have sM:az (off M H) (off M H'):=sg.trans yV
        have hM':∀ c∈M,∃ o,H' c=some o:=fun c hc=>by obtain ⟨o,ho⟩:=hM c hc; exact ⟨o,s2 _ _ ho⟩
        have:=eO (C:=C) (M:=M) (H1:=H') (e:=bA x i e) (D:=D) (l:=pl) (as:=rs) (Q:=Q) (E:=E) hM' (KH hi (gP (fun b xs q=>sM b _ q) hD)) (cz hpl1 plM) (cR yV hrs) (by omega)
          fun z H2 hz kz nz=>k z H2 ((gb.of_same hM s2).trans kz) nz
        rw [ef] at this
        exact this
end
abbrev sr:Stmt:=inClass (top 31) 0
abbrev Mj:Stmt:=top 79
instance Ti (e:Exp):Decidable (gQ e):=inferInstanceAs (Decidable (e.height≤32∧cu e≤32))
def Fl (n:Nat) (i:Int) (a x:Exp):Except Int (List Int):=if Vbdeam.within i 0 ((Vbdeam.size a:Int) - 1)=false then .error (-12) else
  if Vbdeam.readable (Vbdeam.putAt x i.toNat a)=false then .error (-4) else if Vbdeam.LONGCODE < (Vbdeam.numbers n (Vbdeam.putAt x i.toNat a)).length then .error (-2) else .ok (Vbdeam.row (Vbdeam.numbers n (Vbdeam.putAt x i.toNat a)))
theorem Mt {n i:Int} {c d:List Int} (h:¬ (0≤n∧n≤8)):PyVbdeam.put n i c d=[-1]:=by
  show Vbdeam.given (if Vbdeam.within n 0 8=false then .error (-1) else _)=_
  rw [if_pos (Eh h)]
  rfl
theorem Bb {n:Nat} {i:Int} {c d:List Int} (h:n≤8):PyVbdeam.put n i c d=Vbdeam.given (match Vbdeam.taken n c,Vbdeam.taken n d with | .error e,_=>.error e | _,.error e=>.error e | .ok a,.ok x=>Fl n i a x):=by
  show Vbdeam.given (if Vbdeam.within n 0 8=false then .error (-1) else _)=_
  rw [if_neg (by rw [Aa h]; simp)]
  rfl
theorem pO {n:Nat} {i e:Int} {c d:List Int} (h:n≤8) (h1:Vbdeam.taken n c=.error e):PyVbdeam.put n i c d=[e]:=by rw [Bb h,h1]; rfl
theorem mq {n:Nat} {i e:Int} {c d:List Int} {a:Exp} (h:n≤8) (h1:Vbdeam.taken n c=.ok a) (h2:Vbdeam.taken n d=.error e):PyVbdeam.put n i c d=[e]:=by rw [Bb h,h1,h2]; rfl
theorem Js {n:Nat} {i:Int} {c d:List Int} {a x:Exp} (h:n≤8) (h1:Vbdeam.taken n c=.ok a) (h2:Vbdeam.taken n d=.ok x):PyVbdeam.put n i c d=Vbdeam.given (Fl n i a x):=by rw [Bb h,h1,h2]
theorem Dc {n:Nat} {i:Int} {a x:Exp} (h:¬ (0≤i∧i < (Vbdeam.size a:Int))):Fl n i a x=.error (-12):=by
  unfold Fl
  have:Vbdeam.within i 0 ((Vbdeam.size a:Int) - 1)=false:=by
    unfold Vbdeam.within
    by_cases h0:0≤i
    · rw [decide_eq_false (show ¬ i≤(Vbdeam.size a:Int) - 1 by omega),Bool.and_false]
    · rw [decide_eq_false h0,Bool.false_and]
  rw [if_pos this]
theorem Jt {n:Nat} {i:Int} {a x:Exp} (h:0≤i∧i < (Vbdeam.size a:Int)) (hf:MX.i_ (Vbdeam.putAt x i.toNat a)):Fl n i a x=if gQ (Vbdeam.putAt x i.toNat a) then (if (Vbdeam.numbers n (Vbdeam.putAt x i.toNat a)).length≤500 then .ok (Vbdeam.row (Vbdeam.numbers n (Vbdeam.putAt x i.toNat a))) else .error (-2)) else .error (-4):=by
  unfold Fl
  have:Vbdeam.within i 0 ((Vbdeam.size a:Int) - 1)=true:=by
    unfold Vbdeam.within
    rw [decide_eq_true h.1,decide_eq_true (show i≤(Vbdeam.size a:Int) - 1 by omega)]
    rfl
  rw [if_neg (by rw [this]; simp)]
  by_cases hd:gQ (Vbdeam.putAt x i.toNat a)
  · rw [if_neg (by rw [(lC hf).mpr hd]; simp),if_pos hd]
    by_cases hl:(Vbdeam.numbers n (Vbdeam.putAt x i.toNat a)).length≤500
    · rw [if_neg (show ¬ Vbdeam.LONGCODE < _ by unfold Vbdeam.LONGCODE; omega),if_pos hl]
    · rw [if_pos (show Vbdeam.LONGCODE < _ by unfold Vbdeam.LONGCODE; omega),if_neg hl]
  · rw [if_pos,if_neg hd]
    cases q:Vbdeam.readable (Vbdeam.putAt x i.toNat a) with
    | false=>rfl
    | true=>exact absurd ((lC hf).mp q) hd
def Ig (K:PySem.W.Frag):Sp:=fun vs H Q _=>∃ (n i:Int) (l l2:Addr) (code other:List Int),vs=[.int n,.int i,.ref l,.ref l2]∧bG K H l (vI code)∧bG K H l2 (vI other)∧vG H Q (vI (PyVbdeam.put n i code other))
section
variable {P:Program} {w:World} {K:PySem.W.Frag} {mg:Str→Option Value} {base:Heap}
theorem Ex:aN ["self"] ["self"] (aD sr):=⟨rfl,rfl,rfl,by decide +kernel,rfl,by decide +kernel,by decide +kernel⟩
theorem Fz {f fR R:Addr} {fd fdR:FuncData} (F:jA K "__init__" "NoPart.__init__" sr f fd) (FR:jA K "__init__" "Refusal.__init__" vm fR fdR) (bR:Binds K fdR ["self","number"] []) (hR:mg "Refusal"=some (.ref R)) (CR:iC K R "__init__" fR) (hex:mg "Exception"=none):aL P w K mg base (bh P w) 2 f fd ["self"] (LK K (-12)):=by
  have GR:aL P w K mg base (bh P w) 1 fR fdR _ _:=pU FR hex
  refine fV F Ex (fun vs H Q E h=>?_) (fun cdv A outer s H vs Q E hr h=>?_)
  · obtain ⟨_,_,rfl,_⟩:=h
    rfl
  · obtain ⟨x,C,rfl,hx,hc,k⟩:=h
    refine ⟨_,ao (bf (kW (dD rfl hR rfl) CR GR hr bR .nil passes (aa (pv 0) (aa (gC d_ aA) aq)))),?_⟩
    exact ⟨_,rfl,_,rfl,x,C,-12,rfl,hx,hc,k⟩
theorem vP:aN ["n","i","code","other","first","second","whole","numbers","refusal"] ["n","i","code","other"] (aD Mj):=⟨rfl,rfl,rfl,by decide +kernel,rfl,by decide +kernel,by decide +kernel⟩
theorem QS {f C Rc Cw Cl Cn Cd Cp fI f1 f2 f3 f4 f5 f6 f7 f8:Addr} {fd dI d1 d2 d3 d4 d5 d6 d7 d8:FuncData} (F:Fn K mg "put" Mj f fd ["n","i","code","other"]) (hR:mg "Refusal"=some (.ref Rc)) (hlen:mg "len"=none)
    (F1:Fn K mg "check_parameters" Jb f1 d1 ["n"]) (G1:aL P w K mg base (bh P w) 4 f1 d1 ["n"] (Ii Cw)) (F2:Fn K mg "taken_code" t8 f2 d2 ["n","numbers"]) (G2:aL P w K mg base (bh P w) 37 f2 d2 ["n","numbers"] (wN K C Cl Cn Cd))
    (F3:Fn K mg "all_parts" Fd f3 d3 ["node"]) (G3:aL P w K mg base (bh P w) 33 f3 d3 ["node"] (Cz C 32)) (F4:Fn K mg "exchanged" yH f4 d4 ["node","number","other"]) (G4:aL P w K mg base (bh P w) 35 f4 d4 ["node","number","other"] (Aq C 32))
    (F5:Fn K mg "check_depth" pK f5 d5 ["node"]) (G5:aL P w K mg base (bh P w) 36 f5 d5 ["node"] (rW C Cd)) (F6:Fn K mg "code_of" nU f6 d6 ["node","n"]) (G6:aL P w K mg base (bh P w) 40 f6 d6 ["node","n"] (tQ C))
    (F7:Fn K mg "check_length" E_ f7 d7 ["numbers"]) (G7:aL P w K mg base (bh P w) 4 f7 d7 ["numbers"] (Cv K Cl)) (F8:Fn K mg "done" yI f8 d8 ["row"]) (G8:aL P w K mg base (bh P w) 1 f8 d8 ["row"] Ir) (X:XC P w K mg base "NoPart" Cp fI dI (-12))
    (cw:qD K Cw) (cl:qD K Cl) (cn:qD K Cn) (cd:qD K Cd) (cp:qD K Cp) (xw:PySem.W.exmOne K (.ref Cw) (.ref Rc)=some true) (xl:PySem.W.exmOne K (.ref Cl) (.ref Rc)=some true) (xn:PySem.W.exmOne K (.ref Cn) (.ref Rc)=some true) (xd:PySem.W.exmOne K (.ref Cd) (.ref Rc)=some true) (xp:PySem.W.exmOne K (.ref Cp) (.ref Rc)=some true) :
    aL P w K mg base (bh P w) 67 f fd ["n","i","code","other"] (Ig K):=by
  refine fV F.F vP (fun vs H Q E h=>?_) (fun cdv A outer s H vs Q E hr h=>?_)
  · obtain ⟨_,_,_,_,_,_,rfl,_⟩:=h
    rfl
  · obtain ⟨n,i,l,l2,code,other,rfl,hl,hl2,k⟩:=h
    have hr1:bH 1 _:=hr.mono (by omega)
    have hr3:bH 3 _:=hr.mono (by omega)
    have hr4:bH 4 _:=hr.mono (by omega)
    have hr33:bH 33 _:=hr.mono (by omega)
    have hr35:bH 35 _:=hr.mono (by omega)
    have hr36:bH 36 _:=hr.mono (by omega)
    have hr37:bH 37 _:=hr.mono (by omega)
    have hr40:bH 40 _:=hr.mono (by omega)
    refine ⟨_,ao (Fo (Rc:=Rc) (i:=8) rfl vP.nd rfl rfl rfl hR rfl rfl (fun pn xe E th=>aj (bf (aQ G1 hr4 rfl F1.m F1.F.kp F1.b .nil th.passes (aa (pv 0) aq)))
      (aj (aW (i:=4) vP.nd rfl (Or.inl rfl) (aQ G2 hr37 rfl F2.m F2.F.kp F2.b .nil th.passes (aa (pv 0) (aa (pv 2) aq))))
      (aj (aW (i:=5) vP.nd rfl (Or.inl rfl) (aQ G2 hr37 rfl F2.m F2.F.kp F2.b .nil th.passes (aa (pv 0) (aa (pv 3) aq))))
      (aj (aY (jh (oh lR jw aA (pv 1) (bJ (r:=Jq K) (id:="len") bc (by rfl) hlen (by decide +kernel) (aa (aQ G3 hr33 rfl F3.m F3.F.kp F3.b .nil th.passes (aa (pv 4) aq)) aq)))) (ao (b_ X.made X.cls X.ok hr3 rfl X.m X.b rfl th)) aH)
      (aj (aW (i:=6) vP.nd rfl (Or.inl rfl) (aQ G4 hr35 rfl F4.m F4.F.kp F4.b .nil th.passes (aa (pv 4) (aa (pv 1) (aa (pv 5) aq)))))
      (aj (bf (aQ G5 hr36 rfl F5.m F5.F.kp F5.b .nil th.passes (aa (pv 6) aq)))
      (aj (aW (i:=7) vP.nd rfl (Or.inl rfl) (aQ G6 hr40 rfl F6.m F6.F.kp F6.b .nil th.passes (aa (pv 6) (aa (pv 0) aq))))
      (aj (bf (aQ G7 hr4 rfl F7.m F7.F.kp F7.b .nil th.passes (aa (pv 7) aq)))
      (ao (aJ (aQ G8 hr1 rfl F8.m F8.F.kp F8.b .nil th.passes (aa (pv 7) aq))))))))))))),?_⟩
    refine ⟨_,rfl,n,rfl,fun hn=>?_,fun hn=>caught cw xw k (by rw [Mt hn]; rfl)⟩
    obtain ⟨m,rfl⟩:∃ m:Nat,n=m:=⟨n.toNat,by omega⟩
    have hm:m≤8:=by omega
    refine ⟨_,rfl,_,rfl,l,m,code,rfl,hl,hm,fun hc=>caught cl xl k (by rw [pO hm (vM hc)]; rfl),fun hc he=>caught cn xn k (by rw [pO hm (qI hc he)]; rfl),fun e hc he=>⟨fun hd=>caught cd xd k (by rw [pO hm (tD hm hc he hd)]; rfl),fun hd a H1 s1 hna=>?_⟩⟩
    have ta:=tE hm hc he hd
    have k1:vG H1 Q (vI (PyVbdeam.put m i code other)):=fun l2 H2 hl2 s2 h2=>k l2 H2 (same_none s1 hl2) (s1.trans s2) h2
    refine ⟨_,rfl,_,rfl,l2,m,other,rfl,s1.seq hl2,hm,fun hc2=>caught cl xl k1 (by rw [mq hm ta (vM hc2)]; rfl),fun hc2 he2=>caught cn xn k1 (by rw [mq hm ta (qI hc2 he2)]; rfl),fun x hc2 he2=>⟨fun hd2=>caught cd xd k1 (by rw [mq hm ta (tD hm hc2 he2 hd2)]; rfl),fun hd2 b H2 s2 hnb=>?_⟩⟩
    have tb:=tE hm hc2 he2 hd2
    have k2:vG H2 Q (vI (PyVbdeam.put m i code other)):=fun l2 H3 hl2 s3 h3=>k1 l2 H3 (same_none s2 hl2) (s2.trans s3) h3
    rw [Js hm ta tb] at k2
    obtain ⟨hfa,hsa⟩:=lq hm he
    obtain ⟨hfx,hsx⟩:=lq hm he2
    have hna2:=hna.same s2
    refine ⟨_,rfl,0,i,rfl,rfl,_,rfl,bO (fun h1=>?_) fun h1=>?_⟩
    · have h1:0≤i:=of_decide_eq_true h1
      refine ⟨_,rfl,a,e,H2,rfl,az.refl _,hna2,hd.1,by omega,fun q bs H3 hq s3 hq3 hbs=>?_⟩
      have lb:=Paired.length hbs
      rw [cT] at lb
      have k3:vG H3 Q _:=fun l2 H4 hl4 s4 h4=>k2 l2 H4 (same_none s3 hl4) (s3.trans s4) h4
      refine ⟨q,_,rfl,.inl (bG.of hq3),i,_,rfl,rfl,_,rfl,?_⟩
      rw [List.length_map,← lb]
      by_cases h2:i < (Vbdeam.size e:Int)
      · rw [decide_eq_true h2]
        have hi:0≤i∧i < (Vbdeam.size e:Int):=⟨h1,h2⟩
        refine aZ ?_
        have hie:i=(i.toNat:Nat):=by omega
        have hex:bA x i e=Vbdeam.putAt x i.toNat e:=by
          conv=>lhs; rw [hie]
          exact du x e i.toNat (by omega)
        have hfr:MX.i_ (Vbdeam.putAt x i.toNat e):=by rw [← hex]; exact dw hfx e i hfa
        have hkr:MX.Kn m (Vbdeam.putAt x i.toNat e):=by rw [← hex]; exact eV (zA he2) e i (zA he)
        have hsr:=dq x e i.toNat
        rw [Jt hi hfr] at k3
        have o0:az H3 (off [] H3):=fun b o q=>cz q (by simp)
        refine ⟨_,rfl,_,rfl,_,rfl,[],a,b,e,x,i,rfl,fun c hc=>absurd hc (by simp),(hna2.same s3).same o0,(hnb.same s3).same o0,hd.1,by omega,fun r H4 k4 hr4=>?_⟩
        have s4:=k4.same
        have hr5:=hr4.same (aO [] H4)
        rw [hex] at hr5
        have k5:vG H4 Q _:=fun l2 H5 hl5 s5 h5=>k3 l2 H5 (same_none s4 hl5) (s4.trans s5) h5
        refine ⟨_,rfl,r,Vbdeam.putAt x i.toNat e,rfl,hr5,fun hdr H5 s5=>?_,fun hdr=>caught cd xd k5 (by rw [if_neg hdr]; rfl)⟩
        rw [if_pos hdr] at k5
        refine ⟨_,rfl,_,rfl,r,Vbdeam.putAt x i.toNat e,m,rfl,hm,hr5.same s5,hkr,hdr.1,by omega,fun nl H6 hnl s6 hnl6=>?_⟩
        have s56:=s5.trans s6
        have k6:vG H6 Q _:=fun l2 H7 hl7 s7 h7=>k5 l2 H7 (same_none s56 hl7) (s56.trans s7) h7
        refine ⟨_,rfl,nl,_,rfl,bG.of hnl6,fun hle=>?_,fun hle=>?_⟩
        · rw [dg] at hle
          rw [if_pos hle] at k6
          refine ⟨_,rfl,nl,_,rfl,hnl6,by rw [dg]; omega,fun l8 H8 hl8 s8 h8=>k6 l8 H8 hl8 s8 ?_⟩
          rw [h8,dg]
          rfl
        · rw [dg] at hle
          rw [if_neg hle] at k6
          exact caught cl xl k6 rfl
      · rw [decide_eq_false h2]
        rw [Dc (fun z=>h2 z.2)] at k3
        exact cF (caught cp xp k3 rfl).go
    · refine ⟨_,rfl,cF ?_⟩
      rw [Dc (fun z=>h1 (decide_eq_true z.1))] at k2
      exact (caught cp xp k2 rfl).go
end
theorem kI {us:List Value} {n:Nat} (h:us.length=n+1):∃ a r,us=a :: r∧r.length=n:=by
  cases us with
  | nil=>cases h
  | cons a r=>exact ⟨a,r,rfl,Nat.succ.inj h⟩
theorem sY {us:List Value} (h:us.length=1):∃ a,us=[a]:=by
  obtain ⟨a,r,rfl,h2⟩:=kI h
  exact ⟨a,by rw [List.length_eq_zero_iff.mp h2]⟩
theorem qH {us:List Value} (h:us.length=2):∃ a0 a1,us=[a0,a1]:=by
  obtain ⟨a0,r,rfl,h2⟩:=kI h
  obtain ⟨a1,rfl⟩:=sY h2
  exact ⟨a0,a1,rfl⟩
theorem Tw {us:List Value} (h:us.length=3):∃ a0 a1 a2,us=[a0,a1,a2]:=by
  obtain ⟨a0,r,rfl,h2⟩:=kI h
  obtain ⟨a1,a2,rfl⟩:=qH h2
  exact ⟨a0,a1,a2,rfl⟩
theorem Tf {us:List Value} (h:us.length=4):∃ a0 a1 a2 a3,us=[a0,a1,a2,a3]:=by
  obtain ⟨a0,r,rfl,h2⟩:=kI h
  obtain ⟨a1,a2,a3,rfl⟩:=Tw h2
  exact ⟨a0,a1,a2,a3,rfl⟩
theorem Va {us:List Value} (h:us.length=5):∃ a0 a1 a2 a3 a4,us=[a0,a1,a2,a3,a4]:=by
  obtain ⟨a0,r,rfl,h2⟩:=kI h
  obtain ⟨a1,a2,a3,a4,rfl⟩:=Tf h2
  exact ⟨a0,a1,a2,a3,a4,rfl⟩
theorem U_ {us:List Value} (h:us.length=6):∃ a0 a1 a2 a3 a4 a5,us=[a0,a1,a2,a3,a4,a5]:=by
  obtain ⟨a0,r,rfl,h2⟩:=kI h
  obtain ⟨a1,a2,a3,a4,a5,rfl⟩:=Va h2
  exact ⟨a0,a1,a2,a3,a4,a5,rfl⟩
theorem Ca:aP "kind_of" "kind_of" vU ["form","detail"]:=fun _ _ _ _ _ _ us hl=>by obtain ⟨a0,a1,rfl⟩:=qH hl; rfl
theorem zV:aP "place_of" "place_of" pJ ["kind","position"]:=fun _ _ _ _ _ _ us hl=>by obtain ⟨a0,a1,rfl⟩:=qH hl; rfl
theorem yd:aP "around_of" "around_of" nZ ["kind","position"]:=fun _ _ _ _ _ _ us hl=>by obtain ⟨a0,a1,rfl⟩:=qH hl; rfl
theorem rN:aP "name_of_read" "name_of_read" vR ["number"]:=fun _ _ _ _ _ _ us hl=>by obtain ⟨a0,rfl⟩:=sY hl; rfl
theorem o4:aP "common_divisor" "common_divisor" Fb ["a","b"]:=fun _ _ _ _ _ _ us hl=>by obtain ⟨a0,a1,rfl⟩:=qH hl; rfl
theorem qz:aP "is_right_pair" "is_right_pair" yE ["numerator","denominator"]:=fun _ _ _ _ _ _ us hl=>by obtain ⟨a0,a1,rfl⟩:=qH hl; rfl
theorem oY:aP "wants_brackets" "wants_brackets" t7 ["node","position"]:=fun _ _ _ _ _ _ us hl=>by obtain ⟨a0,a1,rfl⟩:=qH hl; rfl
theorem vC:aP "nesting_of" "nesting_of" yF ["node"]:=fun _ _ _ _ _ _ us hl=>by obtain ⟨a0,rfl⟩:=sY hl; rfl
theorem mQ:aP "instructions_in" "instructions_in" Jg ["code","n"]:=fun _ _ _ _ _ _ us hl=>by obtain ⟨a0,a1,rfl⟩:=qH hl; rfl
theorem iZ:aP "is_right_instruction" "is_right_instruction" t_ ["row","n"]:=fun _ _ _ _ _ _ us hl=>by obtain ⟨a0,a1,rfl⟩:=qH hl; rfl
theorem vD:aP "choices_of" "choices_of" jR ["first","n"]:=fun _ _ _ _ _ _ us hl=>by obtain ⟨a0,a1,rfl⟩:=qH hl; rfl
theorem rO:aP "formula_node" "formula_node" jQ ["formula","parts"]:=fun _ _ _ _ _ _ us hl=>by obtain ⟨a0,a1,rfl⟩:=qH hl; rfl
theorem x_:aP "pick_node" "pick_node" yD ["detail","parts"]:=fun _ _ _ _ _ _ us hl=>by obtain ⟨a0,a1,rfl⟩:=qH hl; rfl
theorem iY:aP "simple_expression_of" "simple_expression_of" nQ ["code","n"]:=fun _ _ _ _ _ _ us hl=>by obtain ⟨a0,a1,rfl⟩:=qH hl; rfl
theorem lM:aP "check_parameters" "check_parameters" Jb ["n"]:=fun _ _ _ _ _ _ us hl=>by obtain ⟨a0,rfl⟩:=sY hl; rfl
theorem rP:aP "check_length" "check_length" E_ ["numbers"]:=fun _ _ _ _ _ _ us hl=>by obtain ⟨a0,rfl⟩:=sY hl; rfl
theorem uX:aP "check_depth" "check_depth" pK ["node"]:=fun _ _ _ _ _ _ us hl=>by obtain ⟨a0,rfl⟩:=sY hl; rfl
theorem vB:aP "taken_code" "taken_code" t8 ["n","numbers"]:=fun _ _ _ _ _ _ us hl=>by obtain ⟨a0,a1,rfl⟩:=qH hl; rfl
theorem qy:aP "number_within" "number_within" jf ["name","head","tail","count"]:=fun _ _ _ _ _ _ us hl=>by obtain ⟨a0,a1,a2,a3,rfl⟩:=Tf hl; rfl
theorem oZ:aP "number_of_read" "number_of_read" Jd ["name"]:=fun _ _ _ _ _ _ us hl=>by obtain ⟨a0,rfl⟩:=sY hl; rfl
theorem iK:aP "bare_name_instruction" "bare_name_instruction" yK ["name","n"]:=fun _ _ _ _ _ _ us hl=>by obtain ⟨a0,a1,rfl⟩:=qH hl; rfl
theorem gR:aP "called_name_instruction" "called_name_instruction" nY ["name","count"]:=fun _ _ _ _ _ _ us hl=>by obtain ⟨a0,a1,rfl⟩:=qH hl; rfl
theorem lL:aP "own_instructions" "own_instructions" Jc ["node","sizes","n"]:=fun _ _ _ _ _ _ us hl=>by obtain ⟨a0,a1,a2,rfl⟩:=Tw hl; rfl
theorem kj:aP "last_instructions" "last_instructions" yG ["node","n"]:=fun _ _ _ _ _ _ us hl=>by obtain ⟨a0,a1,rfl⟩:=qH hl; rfl
theorem mO:aP "instructions_of" "instructions_of" ud ["node","n"]:=fun _ _ _ _ _ _ us hl=>by obtain ⟨a0,a1,rfl⟩:=qH hl; rfl
theorem Hn:aP "joined" "joined" nT ["rows"]:=fun _ _ _ _ _ _ us hl=>by obtain ⟨a0,rfl⟩:=sY hl; rfl
theorem Ce:aP "code_of" "code_of" nU ["node","n"]:=fun _ _ _ _ _ _ us hl=>by obtain ⟨a0,a1,rfl⟩:=qH hl; rfl
theorem ye:aP "all_parts" "all_parts" Fd ["node"]:=fun _ _ _ _ _ _ us hl=>by obtain ⟨a0,rfl⟩:=sY hl; rfl
theorem yc:aP "exchanged" "exchanged" yH ["node","number","other"]:=fun _ _ _ _ _ _ us hl=>by obtain ⟨a0,a1,a2,rfl⟩:=Tw hl; rfl
theorem Om:aP "done" "done" yI ["row"]:=fun _ _ _ _ _ _ us hl=>by obtain ⟨a0,rfl⟩:=sY hl; rfl
theorem K7:aP "put" "put" Mj ["n","i","code","other"]:=fun _ _ _ _ _ _ us hl=>by obtain ⟨a0,a1,a2,a3,rfl⟩:=Tf hl; rfl
theorem K6:aP "limit" "Choice.limit" (yJ 1) ["self"]:=fun _ _ _ _ _ _ us hl=>by obtain ⟨a0,rfl⟩:=sY hl; rfl
theorem Oi:aP "step" "Recovery.step" (b7 1) ["self"]:=fun _ _ _ _ _ _ us hl=>by obtain ⟨a0,rfl⟩:=sY hl; rfl
theorem Oj:aP "free" "Recovery.free" (b7 2) ["self"]:=fun _ _ _ _ _ _ us hl=>by obtain ⟨a0,rfl⟩:=sY hl; rfl
theorem vz:aP "take_parts" "Recovery.take_parts" (b7 3) ["self","count"]:=fun _ _ _ _ _ _ us hl=>by obtain ⟨a0,a1,rfl⟩:=qH hl; rfl
theorem xY:aP "take_only" "Recovery.take_only" (b7 4) ["self"]:=fun _ _ _ _ _ _ us hl=>by obtain ⟨a0,rfl⟩:=sY hl; rfl
theorem vy:aP "take_plain" "Recovery.take_plain" (b7 5) ["self","row"]:=fun _ _ _ _ _ _ us hl=>by obtain ⟨a0,a1,rfl⟩:=qH hl; rfl
theorem vA:aP "plain_node" "Recovery.plain_node" (b7 6) ["self","row"]:=fun _ _ _ _ _ _ us hl=>by obtain ⟨a0,a1,rfl⟩:=qH hl; rfl
theorem rK:aP "begin_choice" "Recovery.begin_choice" (b7 7) ["self","length"]:=fun _ _ _ _ _ _ us hl=>by obtain ⟨a0,a1,rfl⟩:=qH hl; rfl
theorem rJ:aP "go_on_choice" "Recovery.go_on_choice" (b7 8) ["self"]:=fun _ _ _ _ _ _ us hl=>by obtain ⟨a0,rfl⟩:=sY hl; rfl
theorem uU:aP "end_joining" "Recovery.end_joining" (b7 9) ["self"]:=fun _ _ _ _ _ _ us hl=>by obtain ⟨a0,rfl⟩:=sY hl; rfl
theorem qx:aP "place_of_nine" "Recovery.place_of_nine" (b7 10) ["self","choice"]:=fun _ _ _ _ _ _ us hl=>by obtain ⟨a0,a1,rfl⟩:=qH hl; rfl
theorem BZ:aP "end_ifs" "Recovery.end_ifs" (b7 11) ["self"]:=fun _ _ _ _ _ _ us hl=>by obtain ⟨a0,rfl⟩:=sY hl; rfl
theorem Ol:aP "__init__" "Node.__init__" CZ ["self","form","detail","parts"]:=fun _ _ _ _ _ _ us hl=>by obtain ⟨a0,a1,a2,a3,rfl⟩:=Tf hl; rfl
theorem Hk:aP "__init__" "Choice.__init__" (yJ 0) ["self","condition","start","middle","end","base"]:=fun _ _ _ _ _ _ us hl=>by obtain ⟨a0,a1,a2,a3,a4,a5,rfl⟩:=U_ hl; rfl
theorem zT:aP "__init__" "Recovery.__init__" (b7 0) ["self","rows"]:=fun _ _ _ _ _ _ us hl=>by obtain ⟨a0,a1,rfl⟩:=qH hl; rfl
theorem B_:aP "__init__" "Refusal.__init__" vm ["self","number"]:=fun _ _ _ _ _ _ us hl=>by obtain ⟨a0,a1,rfl⟩:=qH hl; rfl
theorem jq:aP "__init__" "WrongParameterCount.__init__" (lJ 26) ["self"]:=fun _ _ _ _ _ _ us hl=>by obtain ⟨a0,rfl⟩:=sY hl; rfl
theorem uV:aP "__init__" "CodeTooLong.__init__" (lJ 27) ["self"]:=fun _ _ _ _ _ _ us hl=>by obtain ⟨a0,rfl⟩:=sY hl; rfl
theorem Hj:aP "__init__" "NoCode.__init__" (lJ 28) ["self"]:=fun _ _ _ _ _ _ us hl=>by obtain ⟨a0,rfl⟩:=sY hl; rfl
theorem uW:aP "__init__" "CodeTooDeep.__init__" (lJ 29) ["self"]:=fun _ _ _ _ _ _ us hl=>by obtain ⟨a0,rfl⟩:=sY hl; rfl
theorem xZ:aP "__init__" "WrongName.__init__" wY ["self"]:=fun _ _ _ _ _ _ us hl=>by obtain ⟨a0,rfl⟩:=sY hl; rfl
theorem Hi:aP "__init__" "NoPart.__init__" sr ["self"]:=fun _ _ _ _ _ _ us hl=>by obtain ⟨a0,rfl⟩:=sY hl; rfl
def consts:List (Str×TV):=[("ONE",.i 2),("TWO",.i 3),("AND",.i 4),("OR",.i 5),("IF",.i 6),("STRONGEST",.i 9),("ONE_KINDS",tvs Rz),("TWO_KINDS",tvs Rv),("PLACES",.t (gU.map tvs)),("AROUND",.t (eY.map tvs)),("NUMBER",.i 0),("NAME",.i 1),("PICK",.i 7),("ONE_WORDS",Lp S5),("PICK_WORDS",Lp PJ),("TWO_SIGNS",.t (SQ.map tvs)),("LENGTHS",tvs Ck),("NUMBER_ZERO",tvs [0,0,1]),("NUMBER_ONE",tvs [0,1,1]),("FORMULAS",.i 64),("TABLES",.i 64),("MOST_ARGUMENTS",.i 8),("CALL",.i 8),("MOST_PARAMETERS",.i 8),("LONGEST_CODE",.i 500),("HIGHEST",.i 32),("DEEPEST",.i 32),("LARGEST",.i 1000000000000000000),("READ_ROWS",.t (ROWS.map C_))]
def absent:List Str:=["max","enumerate","len","str","list","range","tuple","Exception","int","zip"]
def constsOk (K:PySem.W.Frag):Bool:=consts.all fun p=>Ut K p.1 p.2
def zX (K:PySem.W.Frag):Bool:=absent.all fun x=>isAbsent K x
theorem Sx {K:PySem.W.Frag} {h:Heap} {mg:Str→Option Value} {x:Str} {c:TV} (X:K.In h) (G:h.Ns mainGlobals mg) (hc:constsOk K=true) (i:Nat) (e:consts[i]?=some (x,c)):GC K mg x c :=
  Sw X G (List.all_eq_true.mp hc (x,c) (List.mem_of_getElem? e))
theorem Sh {K:PySem.W.Frag} {h:Heap} {mg:Str→Option Value} {x:Str} (X:K.In h) (G:h.Ns mainGlobals mg) (ha:zX K=true) (i:Nat) (e:absent[i]?=some x):mg x=none:=by
  have:=List.all_eq_true.mp ha x (List.mem_of_getElem? e)
  unfold isAbsent at this
  split at this
  · rename_i q
    exact PySem.W.mg_none_of X G q
  · cases this
theorem Rr {P:Program} {w:World} {K:PySem.W.Frag} {h:Heap} {mg:Str→Option Value} {fa:Addr} (X:K.In h) (G:h.Ns mainGlobals mg) (hfa:mg "put"=some (.ref fa)) (hc:constsOk K=true) (ha:zX K=true) (hd:∃ d,mg "READ_ALONE"=some (.ref d)∧KDict K w d iB)
    (H_kind_of:∃ f fd,Fn K mg "kind_of" vU f fd ["form","detail"])
    (H_place_of:∃ f fd,Fn K mg "place_of" pJ f fd ["kind","position"])
    (H_around_of:∃ f fd,Fn K mg "around_of" nZ f fd ["kind","position"])
    (H_name_of_read:∃ f fd,Fn K mg "name_of_read" vR f fd ["number"])
    (H_common_divisor:∃ f fd,Fn K mg "common_divisor" Fb f fd ["a","b"])
    (H_is_right_pair:∃ f fd,Fn K mg "is_right_pair" yE f fd ["numerator","denominator"])
    (H_wants_brackets:∃ f fd,Fn K mg "wants_brackets" t7 f fd ["node","position"])
    (H_nesting_of:∃ f fd,Fn K mg "nesting_of" yF f fd ["node"])
    (H_instructions_in:∃ f fd,Fn K mg "instructions_in" Jg f fd ["code","n"])
    (H_is_right_instruction:∃ f fd,Fn K mg "is_right_instruction" t_ f fd ["row","n"])
    (H_choices_of:∃ f fd,Fn K mg "choices_of" jR f fd ["first","n"])
    (H_formula_node:∃ f fd,Fn K mg "formula_node" jQ f fd ["formula","parts"])
    (H_pick_node:∃ f fd,Fn K mg "pick_node" yD f fd ["detail","parts"])
    (H_simple_expression_of:∃ f fd,Fn K mg "simple_expression_of" nQ f fd ["code","n"])
    (H_check_parameters:∃ f fd,Fn K mg "check_parameters" Jb f fd ["n"])
    (H_check_length:∃ f fd,Fn K mg "check_length" E_ f fd ["numbers"])
    (H_check_depth:∃ f fd,Fn K mg "check_depth" pK f fd ["node"])
    (H_taken_code:∃ f fd,Fn K mg "taken_code" t8 f fd ["n","numbers"])
    (H_number_within:∃ f fd,Fn K mg "number_within" jf f fd ["name","head","tail","count"])
    (H_number_of_read:∃ f fd,Fn K mg "number_of_read" Jd f fd ["name"])
    (H_bare_name_instruction:∃ f fd,Fn K mg "bare_name_instruction" yK f fd ["name","n"])
    (H_called_name_instruction:∃ f fd,Fn K mg "called_name_instruction" nY f fd ["name","count"])
    (H_own_instructions:∃ f fd,Fn K mg "own_instructions" Jc f fd ["node","sizes","n"])
    (H_last_instructions:∃ f fd,Fn K mg "last_instructions" yG f fd ["node","n"])
    (H_instructions_of:∃ f fd,Fn K mg "instructions_of" ud f fd ["node","n"])
    (H_joined:∃ f fd,Fn K mg "joined" nT f fd ["rows"])
    (H_code_of:∃ f fd,Fn K mg "code_of" nU f fd ["node","n"])
    (H_all_parts:∃ f fd,Fn K mg "all_parts" Fd f fd ["node"])
    (H_exchanged:∃ f fd,Fn K mg "exchanged" yH f fd ["node","number","other"])
    (H_done:∃ f fd,Fn K mg "done" yI f fd ["row"])
    (H_put:∃ f fd,Fn K mg "put" Mj f fd ["n","i","code","other"])
    (HN:∃ C,(∃ f fd,O4 K mg "Node" "Node.__init__" CZ ["self","form","detail","parts"] C f fd)∧aX K C "form"∧aX K C "detail"∧aX K C "parts"∧aX K C "height")
    (HC:∃ C,(∃ f fd,O4 K mg "Choice" "Choice.__init__" (yJ 0) ["self","condition","start","middle","end","base"] C f fd)∧aX K C "condition"∧aX K C "start"∧aX K C "middle"∧aX K C "end"∧aX K C "base"∧aX K C "first_part"∧(∃ f fd,Fm K C "limit" "Choice.limit" (yJ 1) f fd ["self"]))
    (HR:∃ C,(∃ f fd,O4 K mg "Recovery" "Recovery.__init__" (b7 0) ["self","rows"] C f fd)∧aX K C "rows"∧aX K C "at"∧aX K C "waiting"∧aX K C "choices"∧(∃ f fd,Fm K C "step" "Recovery.step" (b7 1) f fd ["self"])∧(∃ f fd,Fm K C "free" "Recovery.free" (b7 2) f fd ["self"])∧(∃ f fd,Fm K C "take_parts" "Recovery.take_parts" (b7 3) f fd ["self","count"])∧(∃ f fd,Fm K C "take_only" "Recovery.take_only" (b7 4) f fd ["self"])∧(∃ f fd,Fm K C "take_plain" "Recovery.take_plain" (b7 5) f fd ["self","row"])∧(∃ f fd,Fm K C "plain_node" "Recovery.plain_node" (b7 6) f fd ["self","row"])∧(∃ f fd,Fm K C "begin_choice" "Recovery.begin_choice" (b7 7) f fd ["self","length"])∧(∃ f fd,Fm K C "go_on_choice" "Recovery.go_on_choice" (b7 8) f fd ["self"])∧(∃ f fd,Fm K C "end_joining" "Recovery.end_joining" (b7 9) f fd ["self"])∧(∃ f fd,Fm K C "place_of_nine" "Recovery.place_of_nine" (b7 10) f fd ["self","choice"])∧(∃ f fd,Fm K C "end_ifs" "Recovery.end_ifs" (b7 11) f fd ["self"]))
    (HX:∃ Rc,(mg "Refusal"=some (.ref Rc)∧∃ f fd,iC K Rc "__init__" f∧jA K "__init__" "Refusal.__init__" vm f fd∧Binds K fd ["self","number"] [])∧(∃ C f fd,Ci K mg "WrongParameterCount" "WrongParameterCount.__init__" (lJ 26) Rc C f fd)∧(∃ C f fd,Ci K mg "CodeTooLong" "CodeTooLong.__init__" (lJ 27) Rc C f fd)∧(∃ C f fd,Ci K mg "NoCode" "NoCode.__init__" (lJ 28) Rc C f fd)∧(∃ C f fd,Ci K mg "CodeTooDeep" "CodeTooDeep.__init__" (lJ 29) Rc C f fd)∧(∃ C f fd,Ci K mg "WrongName" "WrongName.__init__" wY Rc C f fd)∧(∃ C f fd,Ci K mg "NoPart" "NoPart.__init__" sr Rc C f fd))
    : ∃ fd:FuncData,(∀ (s:Shared) (us:List Value),us.length=(["n","i","code","other"]:List Str).length→BindsTo s fd ⟨us,[]⟩ ((["n","i","code","other"]:List Str).zip us))∧∀ base:Heap,K.In base→base.Ns mainGlobals mg→aL P w K mg base (bh P w) 67 fa fd ["n","i","code","other"] (Ig K):=by
  obtain ⟨f_kind_of,d_kind_of,F_kind_of⟩:=H_kind_of
  obtain ⟨f_place_of,d_place_of,F_place_of⟩:=H_place_of
  obtain ⟨f_around_of,d_around_of,F_around_of⟩:=H_around_of
  obtain ⟨f_name_of_read,d_name_of_read,F_name_of_read⟩:=H_name_of_read
  obtain ⟨f_common_divisor,d_common_divisor,F_common_divisor⟩:=H_common_divisor
  obtain ⟨f_is_right_pair,d_is_right_pair,F_is_right_pair⟩:=H_is_right_pair
  obtain ⟨f_wants_brackets,d_wants_brackets,F_wants_brackets⟩:=H_wants_brackets
  obtain ⟨f_nesting_of,d_nesting_of,F_nesting_of⟩:=H_nesting_of
  obtain ⟨f_instructions_in,d_instructions_in,F_instructions_in⟩:=H_instructions_in
  obtain ⟨f_is_right_instruction,d_is_right_instruction,F_is_right_instruction⟩:=H_is_right_instruction
  obtain ⟨f_choices_of,d_choices_of,F_choices_of⟩:=H_choices_of
  obtain ⟨f_formula_node,d_formula_node,F_formula_node⟩:=H_formula_node
  obtain ⟨f_pick_node,d_pick_node,F_pick_node⟩:=H_pick_node
  obtain ⟨f_simple_expression_of,d_simple_expression_of,F_simple_expression_of⟩:=H_simple_expression_of
  obtain ⟨f_check_parameters,d_check_parameters,F_check_parameters⟩:=H_check_parameters
  obtain ⟨f_check_length,d_check_length,F_check_length⟩:=H_check_length
  obtain ⟨f_check_depth,d_check_depth,F_check_depth⟩:=H_check_depth
  obtain ⟨f_taken_code,d_taken_code,F_taken_code⟩:=H_taken_code
  obtain ⟨f_number_within,d_number_within,F_number_within⟩:=H_number_within
  obtain ⟨f_number_of_read,d_number_of_read,F_number_of_read⟩:=H_number_of_read
  obtain ⟨f_bare_name_instruction,d_bare_name_instruction,F_bare_name_instruction⟩:=H_bare_name_instruction
  obtain ⟨f_called_name_instruction,d_called_name_instruction,F_called_name_instruction⟩:=H_called_name_instruction
  obtain ⟨f_own_instructions,d_own_instructions,F_own_instructions⟩:=H_own_instructions
  obtain ⟨f_last_instructions,d_last_instructions,F_last_instructions⟩:=H_last_instructions
  obtain ⟨f_instructions_of,d_instructions_of,F_instructions_of⟩:=H_instructions_of
  obtain ⟨f_joined,d_joined,F_joined⟩:=H_joined
  obtain ⟨f_code_of,d_code_of,F_code_of⟩:=H_code_of
  obtain ⟨f_all_parts,d_all_parts,F_all_parts⟩:=H_all_parts
  obtain ⟨f_exchanged,d_exchanged,F_exchanged⟩:=H_exchanged
  obtain ⟨f_done,d_done,F_done⟩:=H_done
  obtain ⟨f_put,d_put,F_put⟩:=H_put
  obtain ⟨C,⟨fN,dN,KN⟩,n_form,n_detail,n_parts,n_height⟩:=HN
  obtain ⟨CC,⟨fC,dC,KC⟩,c_condition,c_start,c_middle,c_end,c_base,c_first_part,fL,dL,FL⟩:=HC
  obtain ⟨R,⟨fR0,dR0,KR⟩,r_rows,r_at,r_waiting,r_choices,⟨m_step,e_step,M_step⟩,⟨m_free,e_free,M_free⟩,⟨m_take_parts,e_take_parts,M_take_parts⟩,⟨m_take_only,e_take_only,M_take_only⟩,⟨m_take_plain,e_take_plain,M_take_plain⟩,⟨m_plain_node,e_plain_node,M_plain_node⟩,⟨m_begin_choice,e_begin_choice,M_begin_choice⟩,⟨m_go_on_choice,e_go_on_choice,M_go_on_choice⟩,⟨m_end_joining,e_end_joining,M_end_joining⟩,⟨m_place_of_nine,e_place_of_nine,M_place_of_nine⟩,⟨m_end_ifs,e_end_ifs,M_end_ifs⟩⟩:=HR
  obtain ⟨Rc,⟨mR,fR,dR,clR,FR,bR⟩,⟨Cw,fxw,dxw,Xw⟩,⟨Cl,fxl,dxl,Xl⟩,⟨Cn,fxn,dxn,Xn⟩,⟨Cd,fxd,dxd,Xd⟩,⟨Cg,fxg,dxg,Xg⟩,⟨Cp,fxp,dxp,Xp⟩⟩:=HX
  have e:=hfa.symm.trans F_put.m
  cases e
  have no:∀ (i:Nat) {x:Str},absent[i]?=some x→mg x=none:=fun i _ e=>Sh X G ha i e
  have gc:∀ (i:Nat) {x:Str} {c:TV},consts[i]?=some (x,c)→GC K mg x c:=fun i _ _ e=>Sx X G hc i e
  have TN:kE K C:=⟨KN.cl,n_form,n_detail,n_parts,n_height⟩
  have TR:Rx K R:=⟨KR.cl,r_rows,r_at,r_waiting,r_choices⟩
  have TC:O5 K CC:=⟨KC.cl,c_condition,c_start,c_middle,c_end,c_base,c_first_part⟩
  have TQ:CN K mg:=⟨gc 0 rfl,gc 1 rfl,gc 2 rfl,gc 3 rfl,gc 4 rfl,gc 5 rfl,gc 6 rfl,gc 7 rfl,gc 8 rfl,gc 9 rfl⟩
  have TP:CP K mg:=⟨gc 10 rfl,gc 11 rfl,gc 12 rfl,gc 13 rfl,gc 14 rfl,gc 15 rfl,no 3 rfl,no 4 rfl,no 5 rfl,no 2 rfl⟩
  have TS:SB.CR K mg:=⟨gc 16 rfl,gc 17 rfl,gc 18 rfl,gc 19 rfl,gc 20 rfl,gc 21 rfl,gc 22 rfl,no 6 rfl⟩
  have TU:CS K mg:=⟨gc 23 rfl,gc 24 rfl,gc 25 rfl,gc 26 rfl,no 2 rfl⟩
  have hL:GC K mg "LARGEST" (.i 1000000000000000000):=gc 27 rfl
  have TM:CM K w mg:=⟨hd,gc 28 rfl,no 3 rfl⟩
  have T:RT K mg C R CC:=⟨TN,TR,TC,TP,TQ,TS⟩
  have hmax:mg "max"=none:=no 0 rfl
  have hen:mg "enumerate"=none:=no 1 rfl
  have hex:mg "Exception"=none:=no 7 rfl
  have hlen:mg "len"=none:=no 2 rfl
  have hint:mg "int"=none:=no 8 rfl
  have hstr:mg "str"=none:=no 3 rfl
  have hzip:mg "zip"=none:=no 9 rfl
  obtain ⟨oc,od,kV,doc,pm,an,cdv,ct,osl,hfd,_,_⟩:=F_put.F.ex
  refine ⟨d_put,fun s us hu=>by rw [hfd]; exact .of_eq (K7 kV doc pm an cdv ct us hu),fun base _ _=>?_⟩
  have Yw:XC P w K mg base "WrongParameterCount" Cw fxw dxw (-1):=⟨Xw.made,Xw.cls,Xw.m,Xw.b,QR Xw.F FR bR mR clR hex⟩
  have Yl:XC P w K mg base "CodeTooLong" Cl fxl dxl (-2):=⟨Xl.made,Xl.cls,Xl.m,Xl.b,M9 Xl.F FR bR mR clR hex⟩
  have Yn:XC P w K mg base "NoCode" Cn fxn dxn (-3):=⟨Xn.made,Xn.cls,Xn.m,Xn.b,FQ Xn.F FR bR mR clR hex⟩
  have Yd:XC P w K mg base "CodeTooDeep" Cd fxd dxd (-4):=⟨Xd.made,Xd.cls,Xd.m,Xd.b,Nj Xd.F FR bR mR clR hex⟩
  have Yg:XC P w K mg base "WrongName" Cg fxg dxg (-8):=⟨Xg.made,Xg.cls,Xg.m,Xg.b,JH Xg.F FR bR mR clR hex⟩
  have Yp:XC P w K mg base "NoPart" Cp fxp dxp (-12):=⟨Xp.made,Xp.cls,Xp.m,Xp.b,Fz Xp.F FR bR mR clR hex⟩
  have NN:NK P w K mg base C fN dN:=⟨KN.mk_,M6 KN.F TN hmax,KN.b,KN.m⟩
  have GTP:aL P w K mg base (bh P w) 4 m_take_parts e_take_parts ["self","count"] (jP C R CC Cn):=JM M_take_parts.F M_free T Yn
  have GTO:aL P w K mg base (bh P w) 4 m_take_only e_take_only ["self"] (jc C R CC Cn):=JN M_take_only.F M_free T Yn
  have GNA:aL P w K mg base (bh P w) 1 f_name_of_read d_name_of_read ["number"] Am:=Dl F_name_of_read TM
  have RFx:RF P w K mg base C R CC Cn fxn dxn fN m_take_parts m_take_only f_formula_node f_pick_node f_name_of_read dN e_take_parts e_take_only d_formula_node d_pick_node d_name_of_read :=
    ⟨T,Yn,NN,GTP,M_take_parts.me,M_take_parts.b,GTO,M_take_only.me,M_take_only.b,Bl F_formula_node T NN,F_formula_node,M4 F_pick_node T NN,F_pick_node,GNA,F_name_of_read⟩
  have GPN:aL P w K mg base (bh P w) 5 m_plain_node e_plain_node ["self","row"] (tM C R CC Cn):=Fy M_plain_node.F RFx
  have GTL:aL P w K mg base (bh P w) 6 m_take_plain e_take_plain ["self","row"] (tK C R CC Cn):=Fw M_take_plain.F T M_plain_node GPN
  have W:U6 P w K mg base CC fC fL dC dL:=⟨KC.mk_,Nk KC.F TC,KC.b,KC.m,JR FL.F TC,FL.me,FL.b⟩
  have GST:aL P w K mg base (bh P w) 7 m_step e_step ["self"] (Ak C R CC Cn):=MT M_step.F ⟨T,JV M_begin_choice.F RFx W,M_begin_choice.me,M_begin_choice.b,Nb M_go_on_choice.F RFx,M_go_on_choice.me,M_go_on_choice.b,Ng M_end_joining.F RFx M_place_of_nine,M_end_joining.me,M_end_joining.b,GTL,M_take_plain.me,M_take_plain.b,Nh M_end_ifs.F RFx,M_end_ifs.me,M_end_ifs.b⟩
  have GRI:aL P w K mg base (bh P w) 3 f_is_right_instruction d_is_right_instruction ["row","n"] wO:=JP F_is_right_instruction F_is_right_pair hL F_common_divisor F_name_of_read F_choices_of TP TS TM
  have GIN:aL P w K mg base (bh P w) 4 f_instructions_in d_instructions_in ["code","n"] (Im K Cn):=QZ F_instructions_in F_is_right_instruction GRI Yn TP TS
  have GSI:aL P w K mg base (bh P w) 8 f_simple_expression_of d_simple_expression_of ["code","n"] (tL K C Cn):=Fx F_simple_expression_of ⟨T,F_instructions_in,GIN,KR.mk_,M3 KR.F TR,KR.b,KR.m,GST,M_step.me,M_step.b,GTO,M_take_only.me,M_take_only.b⟩
  have GNE:aL P w K mg base (bh P w) 35 f_nesting_of d_nesting_of ["node"] (Al C 32):=M8 F_nesting_of TN F_kind_of F_around_of F_wants_brackets F_place_of TQ hmax hen 32
  have GPAR:aL P w K mg base (bh P w) 4 f_check_parameters d_check_parameters ["n"] (Ii Cw):=QT F_check_parameters Yw TU
  have GLEN:aL P w K mg base (bh P w) 4 f_check_length d_check_length ["numbers"] (Cv K Cl):=QX F_check_length Yl TU
  have GDEP:aL P w K mg base (bh P w) 36 f_check_depth d_check_depth ["node"] (rW C Cd):=JT F_check_depth F_nesting_of GNE TN Yd TU
  have GTK:aL P w K mg base (bh P w) 37 f_taken_code d_taken_code ["n","numbers"] (wN K C Cl Cn Cd):=JL F_taken_code F_check_length GLEN F_simple_expression_of GSI F_check_depth GDEP
  have GWI:aL P w K mg base (bh P w) 1 f_number_within d_number_within ["name","head","tail","count"] jO:=Fv F_number_within hlen hint hstr
  have GNO:aL P w K mg base (bh P w) 2 f_number_of_read d_number_of_read ["name"] Ik:=QW F_number_of_read TM F_number_within GWI
  have GBA:aL P w K mg base (bh P w) 4 f_bare_name_instruction d_bare_name_instruction ["name","n"] (Av Cg):=Nm F_bare_name_instruction F_number_within GWI F_number_of_read GNO Yg TS
  have GCA:aL P w K mg base (bh P w) 4 f_called_name_instruction d_called_name_instruction ["name","count"] (tR Cg):=F_ F_called_name_instruction F_number_within GWI Yg TS
  have GLA:aL P w K mg base (bh P w) 5 f_last_instructions d_last_instructions ["node","n"] (Ao C):=M_ F_last_instructions TN TP TQ F_bare_name_instruction GBA F_called_name_instruction GCA
  have GOW:aL P w K mg base (bh P w) 6 f_own_instructions d_own_instructions ["node","sizes","n"] (Ij C):=QV F_own_instructions TN TP TQ F_last_instructions GLA
  have GIO:aL P w K mg base (bh P w) 39 f_instructions_of d_instructions_of ["node","n"] (rT C 32):=JS F_instructions_of TN TP hzip F_own_instructions GOW 32
  have GAL:aL P w K mg base (bh P w) 33 f_all_parts d_all_parts ["node"] (Cz C 32):=ok_all F_all_parts TN 32
  have GEX:aL P w K mg base (bh P w) 35 f_exchanged d_exchanged ["node","number","other"] (Aq C 32):=Nf F_exchanged TN NN hlen F_all_parts 32
  have GCO:aL P w K mg base (bh P w) 40 f_code_of d_code_of ["node","n"] (tQ C):=FZ F_code_of F_instructions_of GIO F_joined
  exact QS F_put mR hlen F_check_parameters GPAR F_taken_code GTK F_all_parts GAL F_exchanged GEX F_check_depth GDEP F_code_of GCO F_check_length GLEN F_done (Ni F_done TU) Yp Xw.cls Xl.cls Xn.cls Xd.cls Xp.cls Xw.ex Xl.ex Xn.ex Xd.ex Xp.ex
end SB
end
section
set_option Elab.async false
set_option linter.all false
namespace SB
open PySem PySem.Spec PyProof.Rows L2
open PySem.W (Codec OpenSpec)
theorem P_ {r:OpenSpec} {k:Nat} {q:Program} {loose:List Str} {XP:(Str→Option Value)→Heap→Prop} {YP:World→Heap→Prop} {d:DefRec} {K:Params→PySem.W.Frag} {ps:List Str} {sp:PySem.W.Frag→Sp}
    (hwell:r.wellSaid=true) (hdf:d.params.defaults=[]) (hlen:r.args.length=ps.length) (hr:bH k callerA) (hY:∀ (w:World) (h:Heap),YP w h→(K w.params).In h)
    (F:∀ (w:World) (mg:Str→Option Value) (fa:Addr) (h:Heap),YP w h→(K w.params).In h→h.Ns mainGlobals mg→mg d.name=some (.ref fa) →
      ∃ fd:FuncData,(∀ (s:Shared) (us:List Value),us.length=ps.length→BindsTo s fd ⟨us,[]⟩ (ps.zip us))∧∀ base:Heap,(K w.params).In base→base.Ns mainGlobals mg→aL r.prog w (K w.params) mg base (XL.bh r.prog w) k fa fd ps (sp (K w.params)))
    (hsp:∀ (K:PySem.W.Frag) (H:Hp) (xs:List V) (a:Codec.denoteAll r.args),jB K H xs (Codec.encAll r.args a)→sp K xs H (fun v H'=>Dw K H' v (r.ret.enc (Codec.app r.args r.f a))) fun _ _ _=>False) :
    PySem.W.WalkOS q loose XP YP r d [] (fun f vs=>PySem.call f vs) :=
  Ei (K:=K) (CX:=fun w=>XL.bh r.prog w) (sp:=fun w=>sp (K w.params)) hwell hdf hlen hr hY F (fun w H xs a _ _ _ h4=>hsp (K w.params) H xs a h4) fun w H s e s' z=>by
    obtain ⟨_,_,_,_,_,_,_,_,_,_,q⟩:=z
    exact q
end SB
open PySem PySem.W PyProof.Rows
set_option maxRecDepth 100000 in
set_option maxHeartbeats 0 in
theorem PySem.Challenge.cw_stackback_s08_put_holds : PySem.Challenge.rw_stackback_s08_put.Holds := by
  w_on; k_headS; (case hw=>exact ⟨[.int 0,.int 0,.list [],.list []],by decide +kernel,by decide +kernel⟩)
  k_fillS
  refine SB.P_ (r:=PySem.Challenge.rw_stackback_s08_put) (k:=67) (ps:=["n","i","code","other"]) (sp:=SB.Ig) (by decide +kernel) rfl rfl ⟨rfl,by decide,by decide⟩ (fun w h Y=>PySem.W.kIn_of Y) ?jF ?jS
  case jF =>
    intro w mg fa h Y KX G hmg
    refine' SB.Rr KX G hmg ?jcs ?jab ?jkd ?jh0 ?jh1 ?jh2 ?jh3 ?jh4 ?jh5 ?jh6 ?jh7 ?jh8 ?jh9 ?jh10 ?jh11 ?jh12 ?jh13 ?jh14 ?jh15 ?jh16 ?jh17 ?jh18 ?jh19 ?jh20 ?jh21 ?jh22 ?jh23 ?jh24 ?jh25 ?jh26 ?jh27 ?jh28 ?jh29 ?jh30 ?jhN ?jhC ?jhR ?jhX
    (case jcs=>kernel_rfl)
    (case jab=>kernel_rfl)
    (case jkd =>
      refine' SB.kdx KX G ?jd_a ?jd_l ?jd_s ?jd_e
      (case jd_a=>k_is); (case jd_l=>k_is); (case jd_s=>rfl)
      exact ⟨⟨_,_,rfl,rfl⟩,rfl,⟨_,_,rfl,rfl⟩,rfl,⟨_,_,rfl,rfl⟩,rfl,⟨_,_,rfl,rfl⟩,rfl,⟨_,_,rfl,rfl⟩,rfl,⟨_,_,rfl,rfl⟩,rfl,⟨_,_,rfl,rfl⟩,rfl,trivial⟩)
    (case jh0 =>
      refine' SB.mF SB.Ca KX G ?jh0_a ?jh0_l ?jh0_c ?jh0_k
      (case jh0_a=>k_is); (case jh0_l=>k_is); (case jh0_c=>k_is); (case jh0_k=>k_is))
    (case jh1 =>
      refine' SB.mF SB.zV KX G ?jh1_a ?jh1_l ?jh1_c ?jh1_k
      (case jh1_a=>k_is); (case jh1_l=>k_is); (case jh1_c=>k_is); (case jh1_k=>k_is))
    (case jh2 =>
      refine' SB.mF SB.yd KX G ?jh2_a ?jh2_l ?jh2_c ?jh2_k
      (case jh2_a=>k_is); (case jh2_l=>k_is); (case jh2_c=>k_is); (case jh2_k=>k_is))
    (case jh3 =>
      refine' SB.mF SB.rN KX G ?jh3_a ?jh3_l ?jh3_c ?jh3_k
      (case jh3_a=>k_is); (case jh3_l=>k_is); (case jh3_c=>k_is); (case jh3_k=>k_is))
    (case jh4 =>
      refine' SB.mF SB.o4 KX G ?jh4_a ?jh4_l ?jh4_c ?jh4_k
      (case jh4_a=>k_is); (case jh4_l=>k_is); (case jh4_c=>k_is); (case jh4_k=>k_is))
    (case jh5 =>
      refine' SB.mF SB.qz KX G ?jh5_a ?jh5_l ?jh5_c ?jh5_k
      (case jh5_a=>k_is); (case jh5_l=>k_is); (case jh5_c=>k_is); (case jh5_k=>k_is))
    (case jh6 =>
      refine' SB.mF SB.oY KX G ?jh6_a ?jh6_l ?jh6_c ?jh6_k
      (case jh6_a=>k_is); (case jh6_l=>k_is); (case jh6_c=>k_is); (case jh6_k=>k_is))
    (case jh7 =>
      refine' SB.mF SB.vC KX G ?jh7_a ?jh7_l ?jh7_c ?jh7_k
      (case jh7_a=>k_is); (case jh7_l=>k_is); (case jh7_c=>k_is); (case jh7_k=>k_is))
    (case jh8 =>
      refine' SB.mF SB.mQ KX G ?jh8_a ?jh8_l ?jh8_c ?jh8_k
      (case jh8_a=>k_is); (case jh8_l=>k_is); (case jh8_c=>k_is); (case jh8_k=>k_is))
    (case jh9 =>
      refine' SB.mF SB.iZ KX G ?jh9_a ?jh9_l ?jh9_c ?jh9_k
      (case jh9_a=>k_is); (case jh9_l=>k_is); (case jh9_c=>k_is); (case jh9_k=>k_is))
    (case jh10 =>
      refine' SB.mF SB.vD KX G ?jh10_a ?jh10_l ?jh10_c ?jh10_k
      (case jh10_a=>k_is); (case jh10_l=>k_is); (case jh10_c=>k_is); (case jh10_k=>k_is))
    (case jh11 =>
      refine' SB.mF SB.rO KX G ?jh11_a ?jh11_l ?jh11_c ?jh11_k
      (case jh11_a=>k_is); (case jh11_l=>k_is); (case jh11_c=>k_is); (case jh11_k=>k_is))
    (case jh12 =>
      refine' SB.mF SB.x_ KX G ?jh12_a ?jh12_l ?jh12_c ?jh12_k
      (case jh12_a=>k_is); (case jh12_l=>k_is); (case jh12_c=>k_is); (case jh12_k=>k_is))
    (case jh13 =>
      refine' SB.mF SB.iY KX G ?jh13_a ?jh13_l ?jh13_c ?jh13_k
      (case jh13_a=>k_is); (case jh13_l=>k_is); (case jh13_c=>k_is); (case jh13_k=>k_is))
    (case jh14 =>
      refine' SB.mF SB.lM KX G ?jh14_a ?jh14_l ?jh14_c ?jh14_k
      (case jh14_a=>k_is); (case jh14_l=>k_is); (case jh14_c=>k_is); (case jh14_k=>k_is))
    (case jh15 =>
      refine' SB.mF SB.rP KX G ?jh15_a ?jh15_l ?jh15_c ?jh15_k
      (case jh15_a=>k_is); (case jh15_l=>k_is); (case jh15_c=>k_is); (case jh15_k=>k_is))
    (case jh16 =>
      refine' SB.mF SB.uX KX G ?jh16_a ?jh16_l ?jh16_c ?jh16_k
      (case jh16_a=>k_is); (case jh16_l=>k_is); (case jh16_c=>k_is); (case jh16_k=>k_is))
    (case jh17 =>
      refine' SB.mF SB.vB KX G ?jh17_a ?jh17_l ?jh17_c ?jh17_k
      (case jh17_a=>k_is); (case jh17_l=>k_is); (case jh17_c=>k_is); (case jh17_k=>k_is))
    (case jh18 =>
      refine' SB.mF SB.qy KX G ?jh18_a ?jh18_l ?jh18_c ?jh18_k
      (case jh18_a=>k_is); (case jh18_l=>k_is); (case jh18_c=>k_is); (case jh18_k=>k_is))
    (case jh19 =>
      refine' SB.mF SB.oZ KX G ?jh19_a ?jh19_l ?jh19_c ?jh19_k
      (case jh19_a=>k_is); (case jh19_l=>k_is); (case jh19_c=>k_is); (case jh19_k=>k_is))
    (case jh20 =>
      refine' SB.mF SB.iK KX G ?jh20_a ?jh20_l ?jh20_c ?jh20_k
      (case jh20_a=>k_is); (case jh20_l=>k_is); (case jh20_c=>k_is); (case jh20_k=>k_is))
    (case jh21 =>
      refine' SB.mF SB.gR KX G ?jh21_a ?jh21_l ?jh21_c ?jh21_k
      (case jh21_a=>k_is); (case jh21_l=>k_is); (case jh21_c=>k_is); (case jh21_k=>k_is))
    (case jh22 =>
      refine' SB.mF SB.lL KX G ?jh22_a ?jh22_l ?jh22_c ?jh22_k
      (case jh22_a=>k_is); (case jh22_l=>k_is); (case jh22_c=>k_is); (case jh22_k=>k_is))
    (case jh23 =>
      refine' SB.mF SB.kj KX G ?jh23_a ?jh23_l ?jh23_c ?jh23_k
      (case jh23_a=>k_is); (case jh23_l=>k_is); (case jh23_c=>k_is); (case jh23_k=>k_is))
    (case jh24 =>
      refine' SB.mF SB.mO KX G ?jh24_a ?jh24_l ?jh24_c ?jh24_k
      (case jh24_a=>k_is); (case jh24_l=>k_is); (case jh24_c=>k_is); (case jh24_k=>k_is))
    (case jh25 =>
      refine' SB.mF SB.Hn KX G ?jh25_a ?jh25_l ?jh25_c ?jh25_k
      (case jh25_a=>k_is); (case jh25_l=>k_is); (case jh25_c=>k_is); (case jh25_k=>k_is))
    (case jh26 =>
      refine' SB.mF SB.Ce KX G ?jh26_a ?jh26_l ?jh26_c ?jh26_k
      (case jh26_a=>k_is); (case jh26_l=>k_is); (case jh26_c=>k_is); (case jh26_k=>k_is))
    (case jh27 =>
      refine' SB.mF SB.ye KX G ?jh27_a ?jh27_l ?jh27_c ?jh27_k
      (case jh27_a=>k_is); (case jh27_l=>k_is); (case jh27_c=>k_is); (case jh27_k=>k_is))
    (case jh28 =>
      refine' SB.mF SB.yc KX G ?jh28_a ?jh28_l ?jh28_c ?jh28_k
      (case jh28_a=>k_is); (case jh28_l=>k_is); (case jh28_c=>k_is); (case jh28_k=>k_is))
    (case jh29 =>
      refine' SB.mF SB.Om KX G ?jh29_a ?jh29_l ?jh29_c ?jh29_k
      (case jh29_a=>k_is); (case jh29_l=>k_is); (case jh29_c=>k_is); (case jh29_k=>k_is))
    (case jh30 =>
      refine' SB.mF SB.K7 KX G ?jh30_a ?jh30_l ?jh30_c ?jh30_k
      (case jh30_a=>k_is); (case jh30_l=>k_is); (case jh30_c=>k_is); (case jh30_k=>k_is))
    (case jhN =>
      refine' ⟨_,SB.Uv SB.Ol KX G ?jhN_aC ?jhN_pg ?jhN_hd ?jhN_po ?jhN_sa ?jhN_mk ?jhN_kc ?jhN_a ?jhN_i ?jhN_l ?jhN_c ?jhN_k,?jhN_n0,?jhN_n1,?jhN_n2,?jhN_n3⟩
      (case jhN_aC=>k_is); (case jhN_pg=>k_is); (case jhN_hd=>k_is); (case jhN_po=>k_is); (case jhN_sa=>k_is); (case jhN_mk=>k_is); (case jhN_kc=>k_is); (case jhN_a=>k_is); (case jhN_i=>k_is); (case jhN_l=>k_is); (case jhN_c=>k_is); (case jhN_k=>k_is)
      (case jhN_n0=>unfold L2.aX; k_is); (case jhN_n1=>unfold L2.aX; k_is); (case jhN_n2=>unfold L2.aX; k_is); (case jhN_n3=>unfold L2.aX; k_is))
    (case jhC =>
      refine' ⟨_,SB.Uv SB.Hk KX G ?jhC_aC ?jhC_pg ?jhC_hd ?jhC_po ?jhC_sa ?jhC_mk ?jhC_kc ?jhC_a ?jhC_i ?jhC_l ?jhC_c ?jhC_k,?jhC_n0,?jhC_n1,?jhC_n2,?jhC_n3,?jhC_n4,?jhC_n5,(SB.Hy SB.K6 ?ja_limit ?ji_limit ?jl_limit ?jc_limit ?jk_limit)⟩
      (case jhC_aC=>k_is); (case jhC_pg=>k_is); (case jhC_hd=>k_is); (case jhC_po=>k_is); (case jhC_sa=>k_is); (case jhC_mk=>k_is); (case jhC_kc=>k_is); (case jhC_a=>k_is); (case jhC_i=>k_is); (case jhC_l=>k_is); (case jhC_c=>k_is); (case jhC_k=>k_is)
      (case jhC_n0=>unfold L2.aX; k_is); (case jhC_n1=>unfold L2.aX; k_is); (case jhC_n2=>unfold L2.aX; k_is); (case jhC_n3=>unfold L2.aX; k_is); (case jhC_n4=>unfold L2.aX; k_is); (case jhC_n5=>unfold L2.aX; k_is)
      (case ja_limit=>k_is); (case ji_limit=>k_is); (case jl_limit=>k_is); (case jc_limit=>k_is); (case jk_limit=>k_is))
    (case jhR =>
      refine' ⟨_,SB.Uv SB.zT KX G ?jhR_aC ?jhR_pg ?jhR_hd ?jhR_po ?jhR_sa ?jhR_mk ?jhR_kc ?jhR_a ?jhR_i ?jhR_l ?jhR_c ?jhR_k,?jhR_n0,?jhR_n1,?jhR_n2,?jhR_n3,(SB.Hy SB.Oi ?ja_step ?ji_step ?jl_step ?jc_step ?jk_step),(SB.Hy SB.Oj ?ja_free ?ji_free ?jl_free ?jc_free ?jk_free),(SB.Hy SB.vz ?ja_take_parts ?ji_take_parts ?jl_take_parts ?jc_take_parts ?jk_take_parts),(SB.Hy SB.xY ?ja_take_only ?ji_take_only ?jl_take_only ?jc_take_only ?jk_take_only),(SB.Hy SB.vy ?ja_take_plain ?ji_take_plain ?jl_take_plain ?jc_take_plain ?jk_take_plain),(SB.Hy SB.vA ?ja_plain_node ?ji_plain_node ?jl_plain_node ?jc_plain_node ?jk_plain_node),(SB.Hy SB.rK ?ja_begin_choice ?ji_begin_choice ?jl_begin_choice ?jc_begin_choice ?jk_begin_choice),(SB.Hy SB.rJ ?ja_go_on_choice ?ji_go_on_choice ?jl_go_on_choice ?jc_go_on_choice ?jk_go_on_choice),(SB.Hy SB.uU ?ja_end_joining ?ji_end_joining ?jl_end_joining ?jc_end_joining ?jk_end_joining),(SB.Hy SB.qx ?ja_place_of_nine ?ji_place_of_nine ?jl_place_of_nine ?jc_place_of_nine ?jk_place_of_nine),(SB.Hy SB.BZ ?ja_end_ifs ?ji_end_ifs ?jl_end_ifs ?jc_end_ifs ?jk_end_ifs)⟩
      (case jhR_aC=>k_is); (case jhR_pg=>k_is); (case jhR_hd=>k_is); (case jhR_po=>k_is); (case jhR_sa=>k_is); (case jhR_mk=>k_is); (case jhR_kc=>k_is); (case jhR_a=>k_is); (case jhR_i=>k_is); (case jhR_l=>k_is); (case jhR_c=>k_is); (case jhR_k=>k_is)
      (case jhR_n0=>unfold L2.aX; k_is); (case jhR_n1=>unfold L2.aX; k_is); (case jhR_n2=>unfold L2.aX; k_is); (case jhR_n3=>unfold L2.aX; k_is)
      (case ja_step=>k_is); (case ji_step=>k_is); (case jl_step=>k_is); (case jc_step=>k_is); (case jk_step=>k_is)
      (case ja_free=>k_is); (case ji_free=>k_is); (case jl_free=>k_is); (case jc_free=>k_is); (case jk_free=>k_is)
      (case ja_take_parts=>k_is); (case ji_take_parts=>k_is); (case jl_take_parts=>k_is); (case jc_take_parts=>k_is); (case jk_take_parts=>k_is)
      (case ja_take_only=>k_is); (case ji_take_only=>k_is); (case jl_take_only=>k_is); (case jc_take_only=>k_is); (case jk_take_only=>k_is)
      (case ja_take_plain=>k_is); (case ji_take_plain=>k_is); (case jl_take_plain=>k_is); (case jc_take_plain=>k_is); (case jk_take_plain=>k_is)
      (case ja_plain_node=>k_is); (case ji_plain_node=>k_is); (case jl_plain_node=>k_is); (case jc_plain_node=>k_is); (case jk_plain_node=>k_is)
      (case ja_begin_choice=>k_is); (case ji_begin_choice=>k_is); (case jl_begin_choice=>k_is); (case jc_begin_choice=>k_is); (case jk_begin_choice=>k_is)
      (case ja_go_on_choice=>k_is); (case ji_go_on_choice=>k_is); (case jl_go_on_choice=>k_is); (case jc_go_on_choice=>k_is); (case jk_go_on_choice=>k_is)
      (case ja_end_joining=>k_is); (case ji_end_joining=>k_is); (case jl_end_joining=>k_is); (case jc_end_joining=>k_is); (case jk_end_joining=>k_is)
      (case ja_place_of_nine=>k_is); (case ji_place_of_nine=>k_is); (case jl_place_of_nine=>k_is); (case jc_place_of_nine=>k_is); (case jk_place_of_nine=>k_is)
      (case ja_end_ifs=>k_is); (case ji_end_ifs=>k_is); (case jl_end_ifs=>k_is); (case jc_end_ifs=>k_is); (case jk_end_ifs=>k_is))
    (case jhX =>
      refine' ⟨_,⟨PySem.W.mg_of KX G ?jX_aR,_,_,⟨?jX_ga,?jX_rd,?jX_at,?jX_kp⟩,L2.qe ?jX_l ?jX_c ?jX_k,L2.jA.binds (L2.qe ?jX_l ?jX_c ?jX_k) SB.B_⟩,(SB.RK SB.jq KX G ?jaC_r0 ?jcls_r0 ?jkc_r0 ?ja_r0 ?ji_r0 ?jl_r0 ?jc_r0 ?jk_r0 ?jov_r0 ?jsa_r0 ?jtk_r0 ?jhd_r0 ?jga_r0 ?jgh_r0 ?jnn_r0 ?jex_r0),(SB.RK SB.uV KX G ?jaC_r1 ?jcls_r1 ?jkc_r1 ?ja_r1 ?ji_r1 ?jl_r1 ?jc_r1 ?jk_r1 ?jov_r1 ?jsa_r1 ?jtk_r1 ?jhd_r1 ?jga_r1 ?jgh_r1 ?jnn_r1 ?jex_r1),(SB.RK SB.Hj KX G ?jaC_r2 ?jcls_r2 ?jkc_r2 ?ja_r2 ?ji_r2 ?jl_r2 ?jc_r2 ?jk_r2 ?jov_r2 ?jsa_r2 ?jtk_r2 ?jhd_r2 ?jga_r2 ?jgh_r2 ?jnn_r2 ?jex_r2),(SB.RK SB.uW KX G ?jaC_r3 ?jcls_r3 ?jkc_r3 ?ja_r3 ?ji_r3 ?jl_r3 ?jc_r3 ?jk_r3 ?jov_r3 ?jsa_r3 ?jtk_r3 ?jhd_r3 ?jga_r3 ?jgh_r3 ?jnn_r3 ?jex_r3),(SB.RK SB.xZ KX G ?jaC_r4 ?jcls_r4 ?jkc_r4 ?ja_r4 ?ji_r4 ?jl_r4 ?jc_r4 ?jk_r4 ?jov_r4 ?jsa_r4 ?jtk_r4 ?jhd_r4 ?jga_r4 ?jgh_r4 ?jnn_r4 ?jex_r4),(SB.RK SB.Hi KX G ?jaC_r5 ?jcls_r5 ?jkc_r5 ?ja_r5 ?ji_r5 ?jl_r5 ?jc_r5 ?jk_r5 ?jov_r5 ?jsa_r5 ?jtk_r5 ?jhd_r5 ?jga_r5 ?jgh_r5 ?jnn_r5 ?jex_r5)⟩
      (case jX_aR=>k_is); (case jX_ga=>k_is); (case jX_rd=>k_is); (case jX_at=>k_is); (case jX_kp=>k_is); (case jX_l=>k_is); (case jX_c=>k_is); (case jX_k=>k_is)
      (case jaC_r0=>k_is)
      (case jcls_r0 =>
        refine' SB.RG ?jlk_r0 ?je1_r0 ?je2_r0 ?je3_r0 ?je4_r0
        (case jlk_r0=>k_is)
        all_goals kernel_rfl)
      (case jkc_r0=>k_is); (case ja_r0=>k_is); (case ji_r0=>k_is); (case jl_r0=>k_is); (case jc_r0=>k_is); (case jk_r0=>k_is)
      (case jov_r0=>kernel_rfl); (case jsa_r0=>k_is); (case jtk_r0=>k_is); (case jhd_r0=>k_is); (case jga_r0=>k_is); (case jgh_r0=>k_is); (case jnn_r0=>k_is); (case jex_r0=>kernel_rfl)
      (case jaC_r1=>k_is)
      (case jcls_r1 =>
        refine' SB.RG ?jlk_r1 ?je1_r1 ?je2_r1 ?je3_r1 ?je4_r1
        (case jlk_r1=>k_is)
        all_goals kernel_rfl)
      (case jkc_r1=>k_is); (case ja_r1=>k_is); (case ji_r1=>k_is); (case jl_r1=>k_is); (case jc_r1=>k_is); (case jk_r1=>k_is)
      (case jov_r1=>kernel_rfl); (case jsa_r1=>k_is); (case jtk_r1=>k_is); (case jhd_r1=>k_is); (case jga_r1=>k_is); (case jgh_r1=>k_is); (case jnn_r1=>k_is); (case jex_r1=>kernel_rfl)
      (case jaC_r2=>k_is)
      (case jcls_r2 =>
        refine' SB.RG ?jlk_r2 ?je1_r2 ?je2_r2 ?je3_r2 ?je4_r2
        (case jlk_r2=>k_is)
        all_goals kernel_rfl)
      (case jkc_r2=>k_is); (case ja_r2=>k_is); (case ji_r2=>k_is); (case jl_r2=>k_is); (case jc_r2=>k_is); (case jk_r2=>k_is)
      (case jov_r2=>kernel_rfl); (case jsa_r2=>k_is); (case jtk_r2=>k_is); (case jhd_r2=>k_is); (case jga_r2=>k_is); (case jgh_r2=>k_is); (case jnn_r2=>k_is); (case jex_r2=>kernel_rfl)
      (case jaC_r3=>k_is)
      (case jcls_r3 =>
        refine' SB.RG ?jlk_r3 ?je1_r3 ?je2_r3 ?je3_r3 ?je4_r3
        (case jlk_r3=>k_is)
        all_goals kernel_rfl)
      (case jkc_r3=>k_is); (case ja_r3=>k_is); (case ji_r3=>k_is); (case jl_r3=>k_is); (case jc_r3=>k_is); (case jk_r3=>k_is)
      (case jov_r3=>kernel_rfl); (case jsa_r3=>k_is); (case jtk_r3=>k_is); (case jhd_r3=>k_is); (case jga_r3=>k_is); (case jgh_r3=>k_is); (case jnn_r3=>k_is); (case jex_r3=>kernel_rfl)
      (case jaC_r4=>k_is)
      (case jcls_r4 =>
        refine' SB.RG ?jlk_r4 ?je1_r4 ?je2_r4 ?je3_r4 ?je4_r4
        (case jlk_r4=>k_is)
        all_goals kernel_rfl)
      (case jkc_r4=>k_is); (case ja_r4=>k_is); (case ji_r4=>k_is); (case jl_r4=>k_is); (case jc_r4=>k_is); (case jk_r4=>k_is)
      (case jov_r4=>kernel_rfl); (case jsa_r4=>k_is); (case jtk_r4=>k_is); (case jhd_r4=>k_is); (case jga_r4=>k_is); (case jgh_r4=>k_is); (case jnn_r4=>k_is); (case jex_r4=>kernel_rfl)
      (case jaC_r5=>k_is)
      (case jcls_r5 =>
        refine' SB.RG ?jlk_r5 ?je1_r5 ?je2_r5 ?je3_r5 ?je4_r5
        (case jlk_r5=>k_is)
        all_goals kernel_rfl)
      (case jkc_r5=>k_is); (case ja_r5=>k_is); (case ji_r5=>k_is); (case jl_r5=>k_is); (case jc_r5=>k_is); (case jk_r5=>k_is)
      (case jov_r5=>kernel_rfl); (case jsa_r5=>k_is); (case jtk_r5=>k_is); (case jhd_r5=>k_is); (case jga_r5=>k_is); (case jgh_r5=>k_is); (case jnn_r5=>k_is); (case jex_r5=>kernel_rfl))
  case jS =>
    intro K H xs a hx
    cases hx with
    | cons h1 h2 =>
      cases h2 with
      | cons h2 h3 =>
        cases h3 with
        | cons h3 h4 =>
          cases h4 with
          | cons h4 h5 =>
            cases h5
            cases h1
            cases h2
            cases h3 with
            | lst hs ha =>
              cases h4 with
              | lst hs2 ha2 =>
                have e:=L2.xN a.2.2.1 _ ha
                subst e
                have e2:=L2.xN a.2.2.2.1 _ ha2
                subst e2
                exact ⟨_,_,_,_,a.2.2.1,a.2.2.2.1,rfl,hs,hs2,fun l H' _ _ hl=>.lst (L2.bG.of hl) (L2.DN _)⟩
end
