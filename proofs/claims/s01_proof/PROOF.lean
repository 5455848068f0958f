import PyProof.Rows.All
import Wide.All
import OpenK.AllK
import Wide.FinOn
import PyProof.EqAt
import PyProof.EqKinds
import PyProof.TupleCall
import KE.BitLaws
import Open.SpecLaws
import KE.OsHead
import KE.OsGo
import PySem.Challenge.RW_stackback_s01_tree
import PyProof.ExcInit
import PyProof.ExcClass3
import PyProof.ExcBaseAll.Exception
import PyProof.InstStoreFacts
import PyProof.ExcArgs
import KE.KTryMore
import VbdeamSpec
import PyVbdeam
namespace PySem.W.Fast
def tw14411148421729645286 := 0
def tw9053567979836365436 := 0
def tw5197677871649474197 := 0
def tw12336932956267399362 := 0
def tw3377050368655413191 := 0
def tw6114887641527139762 := 0
def tw10058304032991956148 := 0
def tw13175673106719052235 := 0
def tw10161698617242324762 := 0
def tw3373736425411512633 := 0
def tw7429949618572104869 := 0
def tw17046986924650060678 := 0
def tw925023451358898761 := 0
def tw5305148611646159154 := 0
def tw3418889099162767027 := 0
def tw10510322216736851648 := 0
def tw3359484294290762760 := 0
def tw8584582555625583980 := 0
def tw2946853100912150651 := 0
def tw11392345796375347966 := 0
def tw17392308261475156647 := 0
def tw5047347844775191973 := 0
def tw11564466373901217941 := 0
def tw11990248611290630371 := 0
def tw5411607266013903947 := 0
def tw4985402418559316941 := 0
def tw4031569024373839493 := 0
def tw12776776561397929619 := 0
def tw6270194789623086799 := 0
def tw16603795402294889693 := 0
def tw5472905487569934899 := 0
def tw1216632485137078044 := 0
def tw15340780762960427400 := 0
def tw6809990147748102923 := 0
def tw17870553005330326916 := 0
def tw2113294658484033726 := 0
def tw14787307872671937743 := 0
def tw8491052755438939442 := 0
def tw9284867287226483615 := 0
def tw3659967560920787764 := 0
def tw3948771796938269861 := 0
def tw15471484083782284448 := 0
def tw2496919219433701111 := 0
def tw15370367014405880928 := 0
def tw15201510153748267245 := 0
def tw10354261827801083413 := 0
def tw1400165072839686517 := 0
def tw577244667078655683 := 0
def tw13260432016602499970 := 0
def tw10043895915883521205 := 0
def tw7759730107358164504 := 0
def tw4633975877686686565 := 0
def tw8629947645961797283 := 0
def tw8506965911219765781 := 0
def tw8485480175135849718 := 0
def tw1262234768890354473 := 0
def tw17762507612645631804 := 0
def tw17766650232857259293 := 0
def tw2060696646381061996 := 0
def tw6766005592389821647 := 0
def tw1807561464532814377 := 0
def tw13061264137575044278 := 0
def tw12974923723173937947 := 0
def tw4651554393626623987 := 0
def tw13346163639511148427 := 0
def tw8597185356422410857 := 0
def tw8063241161372406220 := 0
def tw11792367353877046708 := 0
def tw11535934793717737437 := 0
def tw1564012017328448790 := 0
def tw8681145217930288805 := 0
def tw9492392955435145990 := 0
def tw13165464856431921033 := 0
def tw12579422071922205581 := 0
def tw17784233621651350361 := 0
def tw4792032190779170409 := 0
def tw7051829099759707516 := 0
def tw5954017821747546832 := 0
def tw5265378233037230025 := 0
def tw10956644208280114317 := 0
def tw13450353880736404802 := 0
def tw14060707243680921199 := 0
def tw7322345752065773155 := 0
def tw13513455829153203678 := 0
def tw6508260663356214088 := 0
def tw10860010019412252331 := 0
def tw4531134871235644001 := 0
def tw5716726487835472259 := 0
def tw4616427164162985550 := 0
def tw6788074614306306936 := 0
def tw8108970690430508873 := 0
def tw2508875788727405196 := 0
def tw12078028132828884913 := 0
def tw4456517036549696027 := 0
def tw9983311443446396793 := 0
def tw11732931791991521936 := 0
def tw1282108474339739673 := 0
def tw9972653920600469283 := 0
def tw634137178587095733 := 0
def tw4579566740664071226 := 0
def tw613785420961575393 := 0
def tw7558362008684489279 := 0
def tw4217076808271881491 := 0
def tw12205486929001693923 := 0
def tw3381892161664513525 := 0
def tw8043220825040097600 := 0
def tw10207954278872399066 := 0
def tw5512445111198288329 := 0
def tw16066786177010715248 := 0
def tw12666618632303041516 := 0
def tw10684728016667425389 := 0
def tw7081588310867915473 := 0
def tw3800227561455423615 := 0
def tw12171962891382135413 := 0
def tw17652558532839839049 := 0
def tw7720275154790174397 := 0
def tw4827325458713160637 := 0
def tw16619250798020954040 := 0
def tw5870994487518318288 := 0
def tw8991905681407463381 := 0
def tw14717881654984998568 := 0
def tw8691409999073830010 := 0
def tw146554621426592 := 0
def tw5269112099599142401 := 0
def tw8520151308327242723 := 0
def tw9352269948475237685 := 0
def tw16847224297397611894 := 0
def tw7850643099962011617 := 0
def tw4004308493785621000 := 0
def tw7597090269454673076 := 0
def tw4188178317053771516 := 0
def tw9720056524258567253 := 0
def tw4734431144658122268 := 0
def tw5915003372189595508 := 0
def tw5992990956441028834 := 0
def tw16446706741132240444 := 0
def tw6046096879180512710 := 0
def tw16100941557895658986 := 0
def tw15577052797340380382 := 0
def tw13397149131830367543 := 0
def tw1048414201078478976 := 0
def tw14287136514257113358 := 0
def tw18240258631170891442 := 0
def tw17087458419931781553 := 0
def tw4337789773063140421 := 0
def tw6728339357821255747 := 0
def tw503259237327243249 := 0
def tw2832256729493567220 := 0
def tw8209895843880856334 := 0
def tw8338260885498960588 := 0
def tw12385093791938660291 := 0
def tw8545339675583006363 := 0
def tw12081281234576934417 := 0
def tw17723023558884307708 := 0
def tw1768027519598462184 := 0
def tw6878391258904199552 := 0
def tw8622329259629716202 := 0
def tw7270926957899724246 := 0
def tw8634240245776599846 := 0
def tw2285081541889282792 := 0
def tw17789712769381748452 := 0
def tw16905315674606254040 := 0
def tw3901624076935967452 := 0
def tw6713710914510783247 := 0
def tw10602401624510284618 := 0
def tw5505474601711240317 := 0
def tw16732410900736906596 := 0
def tw6842422035250942563 := 0
def tw12670964777047085115 := 0
def tw11682531365366585257 := 0
def tw18049496184500258086 := 0
def tw6107783819350774657 := 0
def tw602794404255850216 := 0
def tw7897175376797645565 := 0
def tw3140428183850187392 := 0
def tw608755774489365665 := 0
def tw4625267166584352690 := 0
def tw14406258769586736820 := 0
def tw2967109465463630221 := 0
def tw4503497741038600376 := 0
def tw4901916707191362284 := 0
def tw16217493588016940451 := 0
def tw1149962643752242257 := 0
def tw4174760796471321075 := 0
def tw7399880370202789058 := 0
def tw183064224950195131 := 0
def tw1288257531592274596 := 0
def tw157398723606602600 := 0
def tw10401931259551496213 := 0
def tw3008054441983498720 := 0
def tw9141537441312213315 := 0
def tw3087417742370869261 := 0
def tw13802544269943265950 := 0
def tw17952397339749490804 := 0
def tw10026389629824115638 := 0
def tw1025103723308018852 := 0
def tw9299788153975631337 := 0
def tw3988201801247456565 := 0
def tw17014858997522782311 := 0
def tw16738173316389992477 := 0
def tw16373500761709865629 := 0
def tw13942034400927524865 := 0
def tw13385989424183715054 := 0
def tw11735252238296361569 := 0
def tw5852281103285995003 := 0
def tw7817665412953797734 := 0
def tw16581267723232468100 := 0
def tw1368372714523605104 := 0
def tw10978554521503232093 := 0
def tw3466466109441318880 := 0
def tw6945623386905905258 := 0
def tw2021359960418643936 := 0
def tw9711966104291000689 := 0
def tw11663179470048415006 := 0
def tw6773173384974838961 := 0
def tw2359477728234793518 := 0
def tw10522239718257444329 := 0
def tw9668428961484958167 := 0
def tw13690609165512037919 := 0
def tw864827725993929469 := 0
def tw15268214133888564117 := 0
def tw8191779888778552860 := 0
def tw2831615800734600751 := 0
def tw16434118092409028936 := 0
def tw1246331390108566524 := 0
def tw15344738287609089186 := 0
def tw13671096024329608042 := 0
def tw14229178405283572117 := 0
def tw1451354440619499822 := 0
def tw1959940802031222412 := 0
def tw11076943698356478946 := 0
def tw10752014217963206760 := 0
def tw13306743924093796622 := 0
def tw12770827772833130499 := 0
def tw16070062300710277770 := 0
def tw10071220254736999866 := 0
def tw5382609537666173323 := 0
def tw11142051822850136400 := 0
def tw2541459569920970600 := 0
def tw12322903599429398014 := 0
def tw14633446141727752491 := 0
def tw8940121865516257531 := 0
def tw9123288360881845806 := 0
def tw9923180611412369377 := 0
def tw3150614258007963193 := 0
def tw8578900389351016551 := 0
def tw7783746835847208341 := 0
def tw16771099120674879930 := 0
def tw11548640076666218510 := 0
def tw8706470873364763223 := 0
def tw13024390068408943125 := 0
def tw4300060614361632664 := 0
def tw418776347676795460 := 0
def tw5383070373363971536 := 0
def tw14404977745944663621 := 0
def tw3406976832499702775 := 0
def tw10143120852858056214 := 0
def tw3841203742280960440 := 0
def tw11659679370283448041 := 0
def tw15361122471881309027 := 0
def tw10872430691106094616 := 0
def tw3077282955631571725 := 0
def tw7816637236892456061 := 0
def tw4400894295868470752 := 0
def tw7069735001810491597 := 0
def tw2629717787167078263 := 0
def tw5750851931210835710 := 0
def tw8809637274678841737 := 0
def tw17277906295160995919 := 0
def tw15835140661904609545 := 0
def tw10084130508031012574 := 0
def tw12095462120152513180 := 0
def tw14240660551752566018 := 0
def tw599154869199915375 := 0
def tw11137188629925449463 := 0
def tw17758718573791781812 := 0
def tw4660332725151843717 := 0
def tw5921878608790604957 := 0
def tw589351839113221594 := 0
def tw17047273570855973796 := 0
def tw6425116847482322344 := 0
def tw13168755697380642025 := 0
def tw9767624107585160284 := 0
def tw5026854961815632496 := 0
def tw9773428837607984606 := 0
def tw15232172690487222590 := 0
def tw12408000232596123416 := 0
def tw937843033959093716 := 0
def tw14282491965290272997 := 0
def tw11003827555612551536 := 0
def tw15332711878422657328 := 0
def tw4843653251074926497 := 0
def tw1910843757714350121 := 0
def tw10531456085294428565 := 0
def tw780314961252997288 := 0
def tw3858875882307151545 := 0
def tw10308558389540129825 := 0
def tw526430008128097689 := 0
def tw17768234606940345316 := 0
def tw7872463911276500668 := 0
def tw9465859662813744689 := 0
def tw14315628219329514519 := 0
def tw12541532649778491510 := 0
def tw11815289291961643572 := 0
def tw2875132776066751834 := 0
def tw5357627159698997511 := 0
def tw7555823284110200428 := 0
def tw12115390117497202099 := 0
def tw9588961814562033115 := 0
def tw2255629431730708070 := 0
def tw6233863343993837189 := 0
def tw7870506958620975417 := 0
def tw7897911439198186829 := 0
def tw7356695041142742034 := 0
def tw5344414453028380599 := 0
def tw1307444833593654627 := 0
def tw1835166397383567472 := 0
def tw14766142076530483572 := 0
def tw12838355500774125158 := 0
def tw7010891967167133633 := 0
def tw7581193997181680996 := 0
def tw4788026218681859625 := 0
def tw14725431094378102194 := 0
def tw14474642796963394729 := 0
def tw13424064046809632781 := 0
def tw17065879094491691013 := 0
def tw11728691004123435281 := 0
def tw6544945410344923844 := 0
def tw2252806147251320237 := 0
def tw11500302664653424957 := 0
def tw112292909276954669 := 0
def tw409244905254904965 := 0
def tw10071958962307397248 := 0
def tw1815838581542503930 := 0
def tw5050519657715484017 := 0
def tw1357927744515407577 := 0
def tw14679610222844238178 := 0
def tw10194964609136058921 := 0
def tw10867378382072660658 := 0
def tw6133110407917361739 := 0
def tw977852564040822170 := 0
def tw190690500877970878 := 0
def tw11564205483360515821 := 0
def tw1932487588879447228 := 0
def tw13890078062131757351 := 0
def tw5374528384027286489 := 0
def tw1773788662610846938 := 0
def tw8223538293552334458 := 0
def tw4904974861010953068 := 0
def tw86195700876250967 := 0
def tw16897782716216666232 := 0
def tw867753026003220533 := 0
def tw2552790751459962220 := 0
def tw7162720403283896998 := 0
def tw1383979756096523999 := 0
def tw16035035641703033534 := 0
def tw17086032800598361684 := 0
def tw9552050330099783663 := 0
def tw2592344222306136551 := 0
def tw4102231886641509924 := 0
def tw8079975424097558697 := 0
def tw7554540742789501245 := 0
def tw4097668383543957350 := 0
def tw17265226465270828126 := 0
def tw14424969685909096096 := 0
def tw15388701309600233114 := 0
def tw8602729968888894396 := 0
def tw14818845358970640053 := 0
def tw7394133066365041965 := 0
def tw17057081516132639681 := 0
def tw13492338297546366468 := 0
def tw6790033420485481203 := 0
def tw9859378958678603200 := 0
def tw11281142609717763213 := 0
def tw13716580648151476552 := 0
def tw7007451672901801079 := 0
def tw8999654906201631614 := 0
def tw17873962622606088210 := 0
def tw12881946739749470208 := 0
def tw1194077846756378647 := 0
def tw765393323173589584 := 0
def tw1510335080961076231 := 0
def tw6870357629818947875 := 0
def tw6503525230217023791 := 0
def tw9281010169273955108 := 0
def tw1703358743120531317 := 0
def tw5109140700091429044 := 0
def tw8041666465130415941 := 0
def tw2519554191363854870 := 0
def tw5904407024919003684 := 0
def tw14193040591548577683 := 0
def tw1542862024895675520 := 0
def tw13876069958109879573 := 0
def tw15155114678834713264 := 0
def tw5862685669742172880 := 0
def tw3971819769498457614 := 0
def tw17806698208897563484 := 0
def tw7756383789379359138 := 0
def tw15759330700786688723 := 0
def tw802067720681221194 := 0
def tw11595017252202174379 := 0
def tw9647765185823013064 := 0
def tw17362684804482802037 := 0
def tw12818780682167390970 := 0
def tw14785603625221902990 := 0
def tw8780968690374340160 := 0
def tw7806693239454326859 := 0
def tw12154839210754322436 := 0
def tw3508683127124464620 := 0
def tw16208796460117944404 := 0
def tw10895376183729329982 := 0
def tw11645508801401939056 := 0
def tw15638312977338879984 := 0
def tw10558797526513205522 := 0
def tw8477931603048468880 := 0
def tw2479371167051824231 := 0
def tw12269967545247986360 := 0
def tw10101284583791823539 := 0
def tw10965737925442430404 := 0
def tw5109952698235063512 := 0
def tw3821188124112812850 := 0
def tw13688414023898623468 := 0
def tw15577284195905473422 := 0
def tw6515391368168766715 := 0
def tw12719604608640927158 := 0
def tw2092640162287355546 := 0
def tw17567979625402214199 := 0
def tw4993928318619017508 := 0
def tw7178939986056859551 := 0
def tw4178864943711472319 := 0
def tw2962991788167964280 := 0
def tw11561595248625916026 := 0
def tw11978515660023694245 := 0
def tw8586372805128803328 := 0
def tw7144761523858683912 := 0
def tw11709443880242860811 := 0
def tw15505870787631997833 := 0
def tw9437531100420619190 := 0
def tw12034308421299441899 := 0
def tw729298505234695723 := 0
def tw4530376634957062588 := 0
def tw2558974693065457389 := 0
def tw7482000179077148089 := 0
def tw17414200003331448721 := 0
def tw8162561309520925202 := 0
def tw13505413279655471020 := 0
def tw10576698916307689160 := 0
def tw6880263627271485636 := 0
def tw15657663176225264564 := 0
def tw2018208994259646864 := 0
def tw15319513537878218579 := 0
def tw3302991938975763307 := 0
def tw14541002350229607940 := 0
def tw12357612056534356670 := 0
def tw15547567592250153543 := 0
def tw18150633841685295538 := 0
def tw10947473784802494850 := 0
def tw14298298997000992142 := 0
def tw2965041905837722271 := 0
def tw245680973397170502 := 0
def tw4713447767700367997 := 0
def tw17899120225095317667 := 0
def tw6860902168502385440 := 0
def tw18416790857678510666 := 0
def tw13174282448756983366 := 0
def tw16134472201563162350 := 0
def tw84743324972318243 := 0
def tw17668112838754481405 := 0
def tw2219783283044331202 := 0
def tw15223765120081676640 := 0
def tw16850861136661435793 := 0
def tw2914287161104297135 := 0
def tw3324801468062270082 := 0
def tw14962898319559249649 := 0
def tw3987720888217995548 := 0
def tw13347271868031899376 := 0
def tw15503219912813148996 := 0
def tw11057671684946334721 := 0
def tw9944900413786660704 := 0
def tw4417826017782628257 := 0
def tw10795946425484483564 := 0
def tw12860267509346042061 := 0
def tw14548337482032864191 := 0
def tw8962185177290628034 := 0
def tw2229231691058618060 := 0
end PySem.W.Fast
section
-- CHANGE: your row's module here, as the last of these rows
set_option Elab.async false
set_option linter.all false
set_option maxRecDepth 100000
namespace L2
open PySem PySem.Spec PyProof.Rows
abbrev Key := Sum Int Str
def keyIs : Key → Value → Bool
  | .inl k, v => Value.isInt k v
  | .inr x, v => Value.isStrOf x v
def keyH (w : World) : Key → Int
  | .inl k => hashInt k
  | .inr x => hashStr w x
theorem keyIs_shape : ∀ {k : Key} {v : Value}, keyIs k v = true → (∃ i t, k = Sum.inl i ∧ v = Value.int i t) ∨ (∃ x t, k = Sum.inr x ∧ v = Value.str x t)
  | .inl i, v, h => by
    obtain ⟨t, e⟩ := Value.isInt_shape (k := i) (v := v) h
    exact .inl ⟨i, t, rfl, e⟩
  | .inr x, v, h => by
    obtain ⟨t, e⟩ := Value.isStrOf_shape (x := x) (v := v) h
    exact .inr ⟨x, t, rfl, e⟩
theorem keyIs_str (x : Str) (t : Tok) : keyIs (.inr x) (.str x t) = true := by simp [keyIs, Value.isStrOf]
theorem key_ll (a b : Int) : decide ((Sum.inl a : Key) = Sum.inl b) = (a == b) := by
  by_cases e : a = b
  · subst e; simp
  · have h : ¬ (Sum.inl a : Key) = Sum.inl b := fun q => e (Sum.inl.inj q)
    rw [decide_eq_false h]
    exact (beq_eq_false_iff_ne.mpr e).symm
theorem key_rr (a b : Str) : decide ((Sum.inr a : Key) = Sum.inr b) = decide (a = b) := by
  by_cases e : a = b
  · subst e; simp
  · have h : ¬ (Sum.inr a : Key) = Sum.inr b := fun q => e (Sum.inr.inj q)
    rw [decide_eq_false h, decide_eq_false e]
theorem key_lr (a : Int) (b : Str) : decide ((Sum.inl a : Key) = Sum.inr b) = false := decide_eq_false (fun q => nomatch q)
theorem key_rl (a : Str) (b : Int) : decide ((Sum.inr a : Key) = Sum.inl b) = false := decide_eq_false (fun q => nomatch q)
def mixKind (prog : Program) (w : World) : PySem.KeyKind prog w Key where
  is := keyIs
  hash := keyH w
  inj := fun v a b ha hb => by
    rcases keyIs_shape ha with ⟨i, t, rfl, rfl⟩ | ⟨x, t, rfl, rfl⟩
    · rcases keyIs_shape hb with ⟨j, u, rfl, e⟩ | ⟨y, u, rfl, e⟩
      · injection e with e1 _; rw [e1]
      · exact nomatch e
    · rcases keyIs_shape hb with ⟨j, u, rfl, e⟩ | ⟨y, u, rfl, e⟩
      · exact nomatch e
      · injection e with e1 _; rw [e1]
  byValue := fun k v h => by
    rcases keyIs_shape h with ⟨i, t, rfl, rfl⟩ | ⟨x, t, rfl, rfl⟩ <;> rfl
  pyHash := fun hv h => by
    rcases keyIs_shape hv with ⟨i, t, rfl, rfl⟩ | ⟨x, t, rfl, rfl⟩
    · exact wpAny_pyHash_int h
    · exact wpAny_pyHash_str h
  eqBool := fun hu hv h => by
    rcases keyIs_shape hu with ⟨i, t, rfl, rfl⟩ | ⟨x, t, rfl, rfl⟩
    · rcases keyIs_shape hv with ⟨j, u, rfl, rfl⟩ | ⟨y, u, rfl, rfl⟩
      · rw [key_ll] at h; exact wpAny_eqBool_int h
      · rw [key_lr] at h; exact SeqAt.EqAt.int_str i t y u _ _ _ _ h
    · rcases keyIs_shape hv with ⟨j, u, rfl, rfl⟩ | ⟨y, u, rfl, rfl⟩
      · rw [key_rl] at h; exact SeqAt.EqAt.str_int x t j u _ _ _ _ h
      · rw [key_rr] at h; exact wpAny_eqBool_str h
  «strs» := fun k x t v h => by
    rcases keyIs_shape h with ⟨i, u, rfl, e⟩ | ⟨y, u, rfl, e⟩
    · exact nomatch e
    · injection e with e1 _
      subst e1
      cases v <;> rfl
theorem mixKind_str (prog : Program) (w : World) (x : Str) (t : Tok) : (mixKind prog w).is (.inr x) (.str x t) = true := keyIs_str x t
end L2
namespace L2
open PySem PySem.Spec PyProof.Rows
inductive V where
  | non | bl (b : Bool) | int (i : Int) | str (x : Str) | byt (b : Array UInt8) | flt (b : UInt64) | ref (a : Addr) | ty (n : String)
  deriving DecidableEq
def RelV : V → Value → Prop
  | .non, u => u = Value.none
  | .bl b, u => u = Value.bool b
  | .int i, u => ∃ t, u = Value.int i t
  | .str x, u => ∃ t, u = Value.str x t
  | .byt b, u => ∃ t, u = Value.bytes b t
  | .flt b, u => ∃ t, u = Value.float b t
  | .ref a, u => u = Value.ref a
  | .ty n, u => u = Value.type n
abbrev Vals : List V → List Value → Prop := Paired RelV
theorem Vals.length {xs : List V} {us : List Value} (r : Vals xs us) : xs.length = us.length := Paired.length r
theorem Vals.get : ∀ {xs : List V} {us : List Value} {i : Nat} {x : V}, Vals xs us → xs[i]? = some x → ∃ u, us[i]? = some u ∧ RelV x u
  | _, _, _, _, .nil, e => by simp at e
  | _, _, 0, _, .cons r _, e => by simp at e; subst e; exact ⟨_, rfl, r⟩
  | _, _, i + 1, x, .cons _ t, e => by
    obtain ⟨u, h1, h2⟩ := Vals.get (i := i) (x := x) t (by simpa using e)
    exact ⟨u, by simpa using h1, h2⟩
theorem Vals.append : ∀ {xs ys : List V} {us ws : List Value}, Vals xs us → Vals ys ws → Vals (xs ++ ys) (us ++ ws)
  | _, _, _, _, .nil, s => s
  | _, _, _, _, .cons r t, s => .cons r (Vals.append t s)
theorem Vals.take : ∀ {xs : List V} {us : List Value} (n : Nat), Vals xs us → Vals (xs.take n) (us.take n)
  | _, _, 0, _ => .nil
  | _, _, _ + 1, .nil => .nil
  | _, _, n + 1, .cons r t => .cons r (Vals.take n t)
theorem Vals.drop : ∀ {xs : List V} {us : List Value} (n : Nat), Vals xs us → Vals (xs.drop n) (us.drop n)
  | _, _, 0, r => r
  | _, _, _ + 1, .nil => .nil
  | _, _, n + 1, .cons _ t => Vals.drop n t
def RelO : Option V → Option Value → Prop
  | some v, some u => RelV v u
  | none, none => True
  | _, _ => False
def KV {κ : Type} : List (κ × V) → List (κ × Value) → Prop := Paired fun (p : κ × V) (q : κ × Value) => p.1 = q.1 ∧ RelV p.2 q.2
def kV : Key → V
  | .inl i => .int i
  | .inr x => .str x
inductive HO where
  | lst (xs : List V)
  | tup (xs : List V)
  | dK (kvs : List (Key × V)) | dT (kvs : List (List Key × V))
  | set (S : Int → Bool) (n : Nat)
  | ins (C dx : Addr) (fs : List (Str × V))
  | own (x : Addr)
  | xd (fs : List (Str × V))
  | met (f x : Addr)
  | rng (lo hi : Int)
  | frz (o : Obj) (u : HO)
  | tbl (ps : Array Value)
  | ext (φ : Heap → Prop)
abbrev Hp := Addr → Option HO
def upd (H : Hp) (a : Addr) (o : HO) : Hp := fun b => if b = a then some o else H b
theorem upd_same {H : Hp} {a : Addr} {o : HO} : upd H a o a = some o := by unfold upd; rw [if_pos rfl]
theorem upd_ne {H : Hp} {a b : Addr} {o : HO} (h : b ≠ a) : upd H a o b = H b := by unfold upd; rw [if_neg h]
theorem ne_of {H : Hp} {a b : Addr} {o u : HO} (h : H a = some o) (h' : H b = some u) (d : o ≠ u) : a ≠ b := by
  intro e; subst e; rw [h] at h'; exact d (Option.some.inj h')
theorem ne_of_none {H : Hp} {a b : Addr} {o : HO} (h : H a = some o) (h' : H b = none) : a ≠ b := by
  intro e; subst e; rw [h] at h'; cases h'
section
variable (P : Program) (w : World)
def ObjOk (H : Hp) (h : Heap) (a : Addr) : HO → Prop
  | .lst xs => xs.length ≤ sizeLine ∧ ∃ (its : List Value) (n : Nat), Vals xs its ∧ h.get? a = some { cls := .type "list", data := .seq its.toArray n }
  | .tup xs => xs.length ≤ sizeLine ∧ ∃ its : List Value, Vals xs its ∧ IsTup h a its.toArray
  | .dK kvs => kvs.length ≤ sizeLine ∧ (a == sysModules) = false ∧ ∃ vs, KV kvs vs ∧ h.DictOf (mixKind P w) a vs
  | .dT kvs => kvs.length ≤ sizeLine ∧ (a == sysModules) = false ∧ ∃ xs : List (List Key × Addr × Value),
      Paired (fun (p : List Key × V) (q : List Key × Addr × Value) => p.1 = q.1 ∧ H q.2.1 = some (.tup (p.1.map kV)) ∧ RelV p.2 q.2.2) kvs xs ∧
      ∃ o es ep, h.get? a = some o ∧ o.ExactDict ∧ o.data = .dict es ep ∧ es.toList = xs.map (entryOfKey (tupleKind (mixKind P w))) ∧ (xs.map (·.1)).Nodup
  | .set S n => h.SetOf (intKind P w) a S n
  | .ins C dx fs => H dx = some (.own a) ∧ fs.length ≤ 1000 ∧ dx ≠ a ∧ h.get? a = some (PySem.W.instObj C dx) ∧
      ∃ mA, h.Ns1 dx mA ∧ (∀ f, RelO (fs.lookup f) (mA f)) ∧ PySem.Within mA (fs.map (·.1))
  | .own _ => ∃ o, h.get? a = some o
  | .xd fs => ∃ mA, h.Ns1 a mA ∧ ∀ f, RelO (fs.lookup f) (mA f)
  | .rng lo hi => ∃ t u v, h.get? a = some { cls := .type "range", data := .fields #[.int lo t, .int hi u, .int 1 v] }
  | .frz o u => h.get? a = some o ∧ ObjOk H h a u
  | .tbl ps => h.get? a = some { cls := .none, data := .fields ps }
  | .met f x => h.get? a = some (PySem.W.methodObj (.ref f) (.ref x))
  | .ext φ => φ h ∧ (∃ o, h.get? a = some o) ∧ ∀ h1 h2 : Heap, φ h1 → (∀ o, h1.get? a = some o → h2.get? a = some o) → φ h2
def HOk (H : Hp) (h : Heap) : Prop := ∀ a o, H a = some o → ObjOk P w H h a o
end
section
variable {P : Program} {w : World} {H H' : Hp} {h h' : Heap} {a : Addr} {o : HO}
theorem ObjOk.lt (x : ObjOk P w H h a o) : a < h.objs.size := by
  cases o with
  | lst xs => obtain ⟨_, _, _, _, e⟩ := x; exact Heap.lt_size e
  | tup xs => obtain ⟨_, _, _, p⟩ := x; exact p.lt
  | dK kvs => obtain ⟨_, _, _, _, o, _, _, e, _⟩ := x; exact Heap.lt_size e
  | dT kvs => obtain ⟨_, _, _, _, o, _, _, e, _⟩ := x; exact Heap.lt_size e
  | set S n => obtain ⟨o, _, _, _, e, _⟩ := x; exact Heap.lt_size e
  | ins C dx fs => obtain ⟨_, _, _, e, _⟩ := x; exact Heap.lt_size e
  | own y => obtain ⟨_, e⟩ := x; exact Heap.lt_size e
  | xd fs => obtain ⟨_, ⟨_, _, _, e, _⟩, _⟩ := x; exact Heap.lt_size e
  | rng lo hi => obtain ⟨_, _, _, e⟩ := x; exact Heap.lt_size e
  | frz ob u => obtain ⟨e, _⟩ := x; exact Heap.lt_size e
  | tbl ps => exact Heap.lt_size (show h.get? a = some _ from x)
  | met f y => exact Heap.lt_size (show h.get? a = some _ from x)
  | ext φ => obtain ⟨_, ⟨_, e⟩, _⟩ := x; exact Heap.lt_size e
theorem Paired.mapP {α β : Type} {F G : α → β → Prop} : ∀ {l₁ : List α} {l₂ : List β}, Paired F l₁ l₂ → (∀ a b, F a b → G a b) → Paired G l₁ l₂
  | _, _, .nil, _ => .nil
  | _, _, .cons r t, f => .cons (f _ _ r) (Paired.mapP t f)
theorem ObjOk.stay (x : ObjOk P w H h a o) (k : ∀ b u, (b = a ∨ H b = some (.own a)) → h.get? b = some u → h'.get? b = some u)
    (ho : ∀ b, H b = some (.own a) → H' b = some (.own a)) (ht : ∀ b xs, H b = some (.tup xs) → H' b = some (.tup xs)) : ObjOk P w H' h' a o := by
  induction o with
  | lst xs => obtain ⟨z, its, n, r, e⟩ := x; exact ⟨z, its, n, r, k _ _ (.inl rfl) e⟩
  | tup xs => obtain ⟨z, its, r, ob, e, c⟩ := x; exact ⟨z, its, r, ob, k _ _ (.inl rfl) e, c⟩
  | dK kvs => obtain ⟨z, y, vs, r, ob, es, ep, e, c⟩ := x; exact ⟨z, y, vs, r, ob, es, ep, k _ _ (.inl rfl) e, c⟩
  | dT kvs =>
    obtain ⟨z, y, xs, r, ob, es, ep, e, c⟩ := x
    exact ⟨z, y, xs, Paired.mapP r fun p q z => ⟨z.1, ht _ _ z.2.1, z.2.2⟩, ob, es, ep, k _ _ (.inl rfl) e, c⟩
  | set S n => obtain ⟨ob, es, ep, t, e, c⟩ := x; exact ⟨ob, es, ep, t, k _ _ (.inl rfl) e, c⟩
  | ins C dx fs =>
    obtain ⟨d, z, ne, e, mA, ⟨od, es, ep, e2, c⟩, r⟩ := x
    exact ⟨ho _ d, z, ne, k _ _ (.inl rfl) e, mA, ⟨od, es, ep, k _ _ (.inr d) e2, c⟩, r⟩
  | own y => obtain ⟨ob, e⟩ := x; exact ⟨ob, k _ _ (.inl rfl) e⟩
  | xd fs => obtain ⟨mA, ⟨od, es, ep, e, c⟩, r⟩ := x; exact ⟨mA, ⟨od, es, ep, k _ _ (.inl rfl) e, c⟩, r⟩
  | rng lo hi => obtain ⟨t, u, v, e⟩ := x; exact ⟨t, u, v, k _ _ (.inl rfl) e⟩
  | frz ob u ih => obtain ⟨e, q⟩ := x; exact ⟨k _ _ (.inl rfl) e, ih q⟩
  | tbl ps =>
    have e : h.get? a = some { cls := .none, data := .fields ps } := x
    show h'.get? a = some { cls := .none, data := .fields ps }
    exact k a _ (.inl rfl) e
  | met f y =>
    have e : h.get? a = some (PySem.W.methodObj (.ref f) (.ref y)) := x
    show h'.get? a = some (PySem.W.methodObj (.ref f) (.ref y))
    exact k a _ (.inl rfl) e
  | ext φ => obtain ⟨p, ⟨o, e⟩, st⟩ := x; exact ⟨st _ _ p fun o q => k _ _ (.inl rfl) q, ⟨o, k _ _ (.inl rfl) e⟩, st⟩
theorem HOk.lt (x : HOk P w H h) (e : H a = some o) : a < h.objs.size := (x a o e).lt
theorem HOk.fresh (x : HOk P w H h) (e : h.objs.size ≤ a) : H a = none := by
  cases q : H a with
  | none => rfl
  | some u => exact absurd (Nat.lt_of_lt_of_le (x.lt q) e) (Nat.lt_irrefl _)
theorem HOk.kept (x : HOk P w H h) (k : ∀ b u, h.get? b = some u → h'.get? b = some u) : HOk P w H h' := fun a o e =>
  (x a o e).stay (fun b u _ q => k b u q) (fun _ q => q) fun _ _ q => q
theorem HOk.laid (x : HOk P w H h) (k : ∀ b u, h.get? b = some u → h'.get? b = some u) (hp : h.objs.size ≤ a) (new : ObjOk P w (upd H a o) h' a o) : HOk P w (upd H a o) h' := fun b u e => by
  have hn := x.fresh hp
  by_cases hb : b = a
  · subst hb; rw [upd_same] at e; cases e; exact new
  · rw [upd_ne hb] at e
    exact (x b u e).stay (fun c v _ q => k c v q) (fun c q => by rw [upd_ne (ne_of_none q hn)]; exact q) fun c xs q => by rw [upd_ne (ne_of_none q hn)]; exact q
end
def Rd (H : Hp) (a : Addr) (u : HO) : Prop := H a = some u ∨ ∃ o, H a = some (.frz o u)
theorem Rd.ok {P : Program} {w : World} {H : Hp} {h : Heap} {a : Addr} {u : HO} (r : Rd H a u) (x : HOk P w H h) : ObjOk P w H h a u := by
  rcases r with r | ⟨o, r⟩
  · exact x a u r
  · obtain ⟨_, q⟩ := x a _ r
    exact q
def Mut : Option HO → Prop
  | some (.lst _) => True
  | some (.dK _) => True
  | some (.dT _) => True
  | some (.set _ _) => True
  | some (.ins _ _ _) => True
  | some (.ext _) => True
  | _ => False
section
variable {P : Program} {w : World} {H : Hp} {h h' : Heap} {x e : Addr} {o' : HO}
theorem HOk.write (ok : HOk P w H h) (mu : Mut (H x)) (he : e = x ∨ H e = some (.own x)) (k : ∀ b u, b ≠ e → h.get? b = some u → h'.get? b = some u) (heo : ∃ u, h'.get? e = some u)
    (new : ObjOk P w (upd H x o') h' x o') : HOk P w (upd H x o') h' := fun b u q => by
  have nown : ∀ c y, H c = some (.own y) → c ≠ x := fun c y r z => by subst z; rw [r] at mu; exact mu
  have ntup : ∀ c xs, H c = some (.tup xs) → c ≠ x := fun c xs r z => by subst z; rw [r] at mu; exact mu
  by_cases hb : b = x
  · subst hb; rw [upd_same] at q; cases q; exact new
  · rw [upd_ne hb] at q
    by_cases hbe : b = e
    · have q' : H b = some (.own x) := by
        rcases he with z | z
        · exact absurd (hbe.trans z) hb
        · rw [hbe]; exact z
      rw [q] at q'; cases q'
      obtain ⟨v, hv⟩ := heo
      exact ⟨v, by rw [hbe]; exact hv⟩
    · refine (ok b u q).stay (fun c v hc r => k c v ?_ r) (fun c r => by rw [upd_ne (nown c b r)]; exact r) fun c xs r => by rw [upd_ne (ntup c xs r)]; exact r
      rcases hc with rfl | hc
      · exact hbe
      · rintro rfl
        rcases he with z | z
        · exact nown c b hc z
        · rw [hc] at z; cases z; exact hb rfl
end
structure Un (fs ex : List Addr) (H H' : Hp) (h h' : Heap) : Prop where
  keep : ∀ b o, h.get? b = some o → H b = none → b ∉ fs → b ∉ ex → h'.get? b = some o
  slot : ∀ b o, h.get? b = some o → H b = none → b ∈ fs → b ∉ ex → ∃ sl, h'.get? b = some { o with slots := sl }
  free : ∀ b o, h.get? b = some o → H b = none → b ∉ ex → H' b = none
  there : ∀ b o, h.get? b = some o → b ∉ ex → ∃ o', h'.get? b = some o'
  tups : ∀ b xs, H b = some (.tup xs) → H' b = some (.tup xs)
  frzs : ∀ b o u, H b = some (.frz o u) → H' b = some (.frz o u)
  tbls : ∀ b ps, H b = some (.tbl ps) → ∃ more, H' b = some (.tbl (ps ++ more))
section
variable {fs fs' ex ex' : List Addr} {H H1 H2 : Hp} {h h1 h2 h' : Heap} {a x e : Addr} {o : HO}
theorem Un.any (u : Un fs ex H H1 h h1) {b : Addr} {ob : Obj} (q : h.get? b = some ob) (n : H b = none) (hx : b ∉ ex) : ∃ sl, h1.get? b = some { ob with slots := sl } := by
  by_cases hb : b ∈ fs
  · exact u.slot b ob q n hb hx
  · exact ⟨ob.slots, u.keep b ob q n hb hx⟩
theorem Un.kept (k : ∀ b u, h.get? b = some u → h'.get? b = some u) : Un fs ex H H h h' :=
  ⟨fun b ob q _ _ _ => k b ob q, fun b ob q _ _ _ => ⟨ob.slots, k b ob q⟩, fun _ _ _ n _ => n, fun b ob q _ => ⟨ob, k b ob q⟩, fun _ _ q => q, fun _ _ _ q => q, fun _ ps q => ⟨#[], by rw [q]; simp⟩⟩
theorem Un.refl : Un fs ex H H h h := Un.kept fun _ _ q => q
theorem Un.laid (k : ∀ b u, h.get? b = some u → h'.get? b = some u) (hp : h.objs.size ≤ a) (hn : H a = none) : Un fs ex H (upd H a o) h h' where
  keep := fun b u q _ _ _ => k b u q
  slot := fun b u q _ _ _ => ⟨u.slots, k b u q⟩
  free := fun b u q n _ => by rw [upd_ne (Nat.ne_of_lt (Nat.lt_of_lt_of_le (Heap.lt_size q) hp))]; exact n
  there := fun b u q _ => ⟨u, k b u q⟩
  tups := fun b xs q => by rw [upd_ne (ne_of_none q hn)]; exact q
  frzs := fun b u xs q => by rw [upd_ne (ne_of_none q hn)]; exact q
  tbls := fun b ps q => ⟨#[], by rw [upd_ne (ne_of_none q hn), q]; simp⟩
theorem Un.write (mu : Mut (H x)) (he : e = x ∨ H e = some (.own x)) (k : ∀ b u, b ≠ e → h.get? b = some u → h'.get? b = some u) (heo : ∃ u, h'.get? e = some u) : Un fs ex H (upd H x o) h h' := by
  have hx : ∀ b, H b = none → b ≠ x := fun b n z => by subst z; rw [n] at mu; exact mu
  have hb : ∀ b, H b = none → b ≠ e := fun b n z => by
    subst z
    rcases he with r | r
    · exact hx b n r
    · rw [n] at r; cases r
  have hm : ∀ b u, H b = some u → ¬ Mut (some u) → b ≠ x := fun b u q nm z => by subst z; rw [q] at mu; exact nm mu
  refine ⟨fun b u q n _ _ => k b u (hb b n) q, fun b u q n _ _ => ⟨u.slots, k b u (hb b n) q⟩, fun b u q n _ => by rw [upd_ne (hx b n)]; exact n, fun b u q _ => ?_,
    fun b xs q => by rw [upd_ne (hm b _ q fun z => z)]; exact q, fun b u xs q => by rw [upd_ne (hm b _ q fun z => z)]; exact q, fun b ps q => ⟨#[], by rw [upd_ne (hm b _ q fun z => z), q]; simp⟩⟩
  by_cases hbe : b = e
  · subst hbe; exact heo
  · exact ⟨u, k b u hbe q⟩
end
def trk (h : Heap) (H : Hp) : List Addr := (List.range h.objs.size).filter fun a => (H a).isSome
def hidT (h : Heap) (H : Hp) : Heap := PySem.W.hideAll h (trk h H)
theorem hidT_size (h : Heap) (H : Hp) : (hidT h H).objs.size = h.objs.size := PySem.W.hideAll_size _ _
theorem hidT_get {h : Heap} {H : Hp} {b : Addr} {o : Obj} (e : h.get? b = some o) (n : H b = none) : (hidT h H).get? b = some o :=
  PySem.W.hideAll_get _ e fun hm => by
    have q : (H b).isSome = true := (List.mem_filter.mp hm).2
    rw [n] at q; simp at q
theorem of_hidT {h : Heap} {H : Hp} {b : Addr} {o : Obj} (e : (hidT h H).get? b = some o) : h.get? b = some o ∧ H b = none := by
  have e' : h.get? b = some o := PySem.W.of_hideAll (trk h H) e
  refine ⟨e', ?_⟩
  cases q : H b with
  | none => rfl
  | some x =>
    have hm : b ∈ trk h H := List.mem_filter.mpr ⟨List.mem_range.mpr (Heap.lt_size e'), by simp [q]⟩
    have z : (hidT h H).get? b = none := PySem.W.hideAll_none (trk h H) hm
    rw [z] at e; cases e
end L2
namespace L2
open PySem PySem.Spec PyProof.Rows
structure Mod (K : PySem.W.Frag) (mg : Str → Option Value) (base : Heap) : Prop where
  kin : K.In base
  glob : base.Ns mainGlobals mg
  blt : ∃ mb, base.Ns builtinsNs mb ∧ ∀ x : Str, x ≠ "__name__" → mb x = bootBuiltins x
  nolimit : base.NoLimit
structure Cx where
  prog : Program
  w : World
  K : PySem.W.Frag
  mg : Str → Option Value
  base : Heap
  A : Around
  N : List Str
  s_0 : Shared
  H_0 : Hp
  env : Env
  outer : List Env
  stack : List Env
  ex : List Addr
  fn : Str → Bool
  calm : Bool
  pn : List (Addr × Obj)
  xe : Value → Shared → Prop
def frs (l : List Env) : List Addr := l.filterMap (·.frame)
abbrev Cx.fs (X : Cx) : List Addr := frs X.outer
def Vis (sc : Scope) (x : Str) : Prop := sc.names.lookup x = some .local ∨ sc.names.lookup x = some .cell ∨ sc.names.lookup x = some .free
def Loc (sc : Scope) (x : Str) : Prop := sc.names.lookup x = some .local ∨ sc.names.lookup x = some .cell
def Look (env : Env) (h : Heap) (m : Str → Option Value) (x : Str) (u : Value) : Prop :=
  (env.kindOf x = some .local ∧ m x = some u) ∨ ((env.kindOf x = some .cell ∨ env.kindOf x = some .free) ∧ ∃ c, env.cells.lookup x = some c ∧ h.IsCell c (some u))
structure Cx.Ok (X : Cx) : Prop where
  mod : Mod X.K X.mg X.base
  kind : X.env.scope.kind = .function
  glob : X.env.globals = mainGlobals
  blt : X.env.builtins = builtinsNs
  above : X.s_0.heap.objs.size ≤ X.env.locals
  inj : ∀ x y c, X.env.cells.lookup x = some c → X.env.cells.lookup y = some c → x = y
  has : ∀ x, (X.env.kindOf x = some .cell ∨ X.env.kindOf x = some .free) → ∃ c, X.env.cells.lookup x = some c
  cab : ∀ x c, X.fn x = true → X.env.cells.lookup x = some c → X.s_0.heap.objs.size ≤ c
  hd : X.calm = true → X.A.handled = none
  frames : X.A.frames = some X.stack
  stk : X.stack = X.outer ∨ (X.stack = X.env :: X.outer ∧ X.env.frame = some X.env.locals)
  exf : ∀ b ∈ X.ex, b ≠ X.env.locals ∧ ∀ x c, X.env.cells.lookup x = some c → c ≠ b
  bs : ∀ b o, X.base.get? b = some o → X.s_0.heap.get? b = some o ∧ X.H_0 b = none
  bsz : X.base.objs.size ≤ X.s_0.heap.objs.size
  noex : ∀ b o, X.base.get? b = some o → b ∉ X.ex
  exfs : ∀ b ∈ X.ex, b ∉ X.fs
  funs : X.s_0.heap.FunFrames X.base X.outer
  frf : ∀ b ∈ X.fs, X.H_0 b = none
structure Inv (X : Cx) (pins : List (Addr × Obj)) (σ : List (Option V)) (H : Hp) (s : Shared) : Prop where
  ok : X.Ok
  os : s.os = X.s_0.os
  bare : AllBare s.gens
  base : Un X.fs X.ex X.H_0 H X.s_0.heap s.heap
  loc : ∃ m, s.heap.Ns X.env.locals m ∧ ∀ (i : Nat) (x : Str) (v : V), X.N[i]? = some x → σ[i]? = some (some v) → Vis X.env.scope x → ∃ u, RelV v u ∧ Look X.env s.heap m x u
  cell : ∀ x c, X.env.cells.lookup x = some c → ∃ v, s.heap.IsCell c v
  free : H X.env.locals = none
  freeC : ∀ x c, X.env.cells.lookup x = some c → H c = none
  pin : ∀ p ∈ X.pn ++ pins, s.heap.get? p.1 = some p.2 ∧ H p.1 = none ∧ p.1 ≠ X.env.locals ∧ p.1 ∉ X.fs ∧ ∀ v, p.2.data ≠ .cell v
  hok : HOk X.prog X.w H s.heap
  len : σ.length = X.N.length
section
variable {X : Cx} {pins : List (Addr × Obj)} {σ : List (Option V)} {H H' : Hp} {s : Shared} {h' : Heap}
theorem Cx.Ok.nofr (ok : X.Ok) {b : Addr} {o : Obj} (e : X.base.get? b = some o) : b ∉ X.fs := fun hb => by
  have := (ok.funs.mem hb).1
  rw [e] at this; cases this
theorem Inv.bs (I : Inv X pins σ H s) : ∀ b o, X.base.get? b = some o → s.heap.get? b = some o ∧ H b = none := fun b o e =>
  ⟨I.base.keep b o (I.ok.bs b o e).1 (I.ok.bs b o e).2 (I.ok.nofr e) (I.ok.noex b o e), I.base.free b o (I.ok.bs b o e).1 (I.ok.bs b o e).2 (I.ok.noex b o e)⟩
theorem Inv.bk (I : Inv X pins σ H s) : ∀ b o, X.base.get? b = some o → s.heap.get? b = some o := fun b o e => (I.bs b o e).1
theorem Inv.mod (I : Inv X pins σ H s) : Mod X.K X.mg X.base := I.ok.mod
theorem Inv.kIn (I : Inv X pins σ H s) : X.K.In s.heap := I.ok.mod.kin.keeps I.bk
theorem Inv.fr (I : Inv X pins σ H s) : ∃ m, Fr X.base X.env.locals s.heap m :=
  let ⟨m, hn, _⟩ := I.loc
  ⟨m, hn, I.bk, Nat.le_trans I.ok.bsz I.ok.above⟩
theorem Inv.lt (I : Inv X pins σ H s) : X.env.locals < s.heap.objs.size := let ⟨_, hn, _⟩ := I.loc; hn.lt
theorem Inv.sz (I : Inv X pins σ H s) : X.s_0.heap.objs.size ≤ s.heap.objs.size := Nat.le_trans I.ok.above (Nat.le_of_lt I.lt)
theorem Inv.nofs (I : Inv X pins σ H s) {a : Addr} (h : s.heap.objs.size ≤ a) : a ∉ X.fs := fun hb => by
  obtain ⟨_, o, ho, _⟩ := I.ok.funs.mem hb
  exact absurd (Nat.lt_of_lt_of_le (Heap.lt_size ho) (Nat.le_trans I.sz h)) (Nat.lt_irrefl _)
theorem Inv.cne (I : Inv X pins σ H s) : ∀ x c, X.env.cells.lookup x = some c → c ≠ X.env.locals := fun x c e z => by
  obtain ⟨v, o, ho, hd⟩ := I.cell x c e
  obtain ⟨m, ⟨o', es, ep, ho', hd', _⟩, _⟩ := I.loc
  rw [z, ho'] at ho; cases ho; rw [hd'] at hd; cases hd
theorem Inv.funs (I : Inv X pins σ H s) : s.heap.FunFrames X.base X.outer := by
  have all : ∀ (l : List Env), (∀ b ∈ frs l, b ∈ X.fs) → X.s_0.heap.FunFrames X.base l → s.heap.FunFrames X.base l := by
    intro l
    induction l with
    | nil => intro _ _; trivial
    | cons env r ih =>
      intro hs hl
      obtain ⟨hk, ⟨L, o, hf, hn, ho, hd⟩, hr⟩ := hl
      have hL : L ∈ X.fs := hs L (by unfold frs; rw [List.filterMap_cons, hf]; exact List.mem_cons_self)
      obtain ⟨sl, e⟩ := I.base.slot L o ho (I.ok.frf L hL) hL fun z => I.ok.exfs L z hL
      exact ⟨hk, ⟨L, _, hf, hn, e, hd⟩, ih (fun b hb => hs b (by unfold frs; rw [List.filterMap_cons, hf]; exact List.mem_cons_of_mem _ hb)) hr⟩
  exact all X.outer (fun _ hb => hb) I.ok.funs
theorem Inv.stack (I : Inv X pins σ H s) : s.heap.FunFrames X.base X.stack := by
  rcases I.ok.stk with e | ⟨e, hf⟩
  · rw [e]; exact I.funs
  · rw [e]
    obtain ⟨m, hn, _⟩ := I.loc
    refine .cons (by rw [I.ok.kind]; decide) hf hn ?_ I.funs
    exact Heap.get?_none_of_le (Nat.le_trans I.ok.bsz I.ok.above)
theorem Inv.stkSub (I : Inv X pins σ H s) : ∀ b ∈ frs X.stack, b ∈ X.env.locals :: X.fs := fun b hb => by
  rcases I.ok.stk with e | ⟨e, hf⟩
  · rw [e] at hb; exact List.mem_cons_of_mem _ hb
  · rw [e] at hb
    unfold frs at hb
    rw [List.filterMap_cons, hf] at hb
    exact hb
theorem Inv.stkFree (I : Inv X pins σ H s) : ∀ b ∈ frs X.stack, H b = none := fun b hb => by
  rcases List.mem_cons.mp (I.stkSub b hb) with e | hb
  · rw [e]; exact I.free
  · obtain ⟨_, o, ho, _⟩ := I.ok.funs.mem hb
    exact I.base.free b o ho (I.ok.frf b hb) fun z => I.ok.exfs b z hb
theorem Inv.step {g' : Array GenState} {t' : Nat} {d' : Drawn} {ch : List Addr} (I : Inv X pins σ H s)
    (hch : ∀ b ∈ ch, (b ∈ X.ex ∨ X.s_0.heap.objs.size ≤ b) ∧ b ≠ X.env.locals ∧ (∀ x c, X.env.cells.lookup x = some c → c ≠ b) ∧ ∀ p ∈ X.pn ++ pins, p.1 ≠ b)
    (keep : ∀ b o, b ≠ X.env.locals → b ∉ X.fs → b ∉ ch → s.heap.get? b = some o → H b = none → h'.get? b = some o)
    (slot : ∀ b o, b ≠ X.env.locals → b ∈ X.fs → b ∉ ch → s.heap.get? b = some o → H b = none → ∃ sl, h'.get? b = some { o with slots := sl }) (free : ∀ b o, b ∉ ch → s.heap.get? b = some o → H b = none → H' b = none)
    (there : ∀ b o, b ∉ ch → s.heap.get? b = some o → ∃ o', h'.get? b = some o')
    (tups : ∀ b xs, H b = some (.tup xs) → H' b = some (.tup xs)) (frzs : ∀ b o u, H b = some (.frz o u) → H' b = some (.frz o u)) (tbls : ∀ b ps, H b = some (.tbl ps) → ∃ more, H' b = some (.tbl (ps ++ more)))
    (ns : ∀ m, s.heap.Ns X.env.locals m → h'.Ns X.env.locals m) (hok : HOk X.prog X.w H' h') (hg : AllBare g') :
    Inv X pins σ H' { s with heap := h', gens := g', drawn := d', toks := t' } := by
  have neL : ∀ b o, X.s_0.heap.get? b = some o → b ≠ X.env.locals := fun b o e => Nat.ne_of_lt (Nat.lt_of_lt_of_le (Heap.lt_size e) I.ok.above)
  have neC : ∀ b o, X.s_0.heap.get? b = some o → b ∉ X.ex → b ∉ ch := fun b o e hx hb => by
    rcases (hch b hb).1 with z | z
    · exact hx z
    · exact absurd (Nat.lt_of_lt_of_le (Heap.lt_size e) z) (Nat.lt_irrefl _)
  have cellK : ∀ x c, X.env.cells.lookup x = some c → ∀ v, s.heap.IsCell c v → h'.IsCell c v := fun x c e v ⟨o, ho, hd⟩ => by
    have nch : c ∉ ch := fun z => (hch c z).2.2.1 x c e rfl
    by_cases hc : c ∈ X.fs
    · obtain ⟨sl, q⟩ := slot c o (I.cne x c e) hc nch ho (I.freeC x c e)
      exact ⟨_, q, hd⟩
    · exact ⟨o, keep c o (I.cne x c e) hc nch ho (I.freeC x c e), hd⟩
  refine ⟨I.ok, I.os, hg, ⟨fun b o e n hb hx => ?_, fun b o e n hb hx => ?_, fun b o e n hx => ?_, fun b o e hx => ?_, fun b xs e => tups b xs (I.base.tups b xs e), fun b o xs e => frzs b o xs (I.base.frzs b o xs e), fun b ps e => ?_⟩, ?_, fun x c e => ?_, ?_, fun x c e => ?_, fun p hp => ?_, hok, I.len⟩
  · exact keep b o (neL b o e) hb (neC b o e hx) (I.base.keep b o e n hb hx) (I.base.free b o e n hx)
  · obtain ⟨sl, e1⟩ := I.base.slot b o e n hb hx
    obtain ⟨sl', e2⟩ := slot b _ (neL b o e) hb (neC b o e hx) e1 (I.base.free b o e n hx)
    exact ⟨sl', e2⟩
  · obtain ⟨o', e1⟩ := I.base.there b o e hx
    exact free b o' (neC b o e hx) e1 (I.base.free b o e n hx)
  · obtain ⟨o', e1⟩ := I.base.there b o e hx
    exact there b o' (neC b o e hx) e1
  · obtain ⟨m1, e1⟩ := I.base.tbls b ps e
    obtain ⟨m2, e2⟩ := tbls b _ e1
    exact ⟨m1 ++ m2, by rw [e2, Array.append_assoc]⟩
  · obtain ⟨m, hn, hl⟩ := I.loc
    refine ⟨m, ns m hn, fun i x v e1 e2 e3 => ?_⟩
    obtain ⟨u, r, l⟩ := hl i x v e1 e2 e3
    refine ⟨u, r, ?_⟩
    rcases l with l | ⟨k, c, e, z⟩
    · exact .inl l
    · exact .inr ⟨k, c, e, cellK x c e _ z⟩
  · obtain ⟨v, z⟩ := I.cell x c e
    exact ⟨v, cellK x c e v z⟩
  · obtain ⟨m, ⟨o, _, _, ho, _⟩, _⟩ := I.loc
    exact free _ o (fun z => (hch _ z).2.1 rfl) ho I.free
  · obtain ⟨v, o, ho, hd⟩ := I.cell x c e
    exact free c o (fun z => (hch c z).2.2.1 x c e rfl) ho (I.freeC x c e)
  · obtain ⟨e, n, ne, nf, d⟩ := I.pin p hp
    have nch : p.1 ∉ ch := fun z => (hch p.1 z).2.2.2 p hp rfl
    exact ⟨keep p.1 p.2 ne nf nch e n, free p.1 p.2 nch e n, ne, nf, d⟩
theorem Inv.un {t' : Nat} (I : Inv X pins σ H s) (u : Un X.fs [] H H' s.heap h') (hok : HOk X.prog X.w H' h') : Inv X pins σ H' { s with heap := h', toks := t' } := by
  obtain ⟨m, ⟨o, es, ep, ho, r⟩, _⟩ := id I.loc
  obtain ⟨sl, hL⟩ := u.any ho I.free (by simp)
  exact I.step (g' := s.gens) (d' := s.drawn) (ch := []) (fun _ z => nomatch z) (fun b o _ hb _ e n => u.keep b o e n hb (by simp)) (fun b o _ hb _ e n => u.slot b o e n hb (by simp)) (fun b o _ e n => u.free b o e n (by simp)) (fun b o _ e => u.there b o e (by simp)) u.tups u.frzs u.tbls (fun m' hm => by
    obtain ⟨o', es', ep', ho', r'⟩ := hm
    rw [ho] at ho'; cases ho'
    exact ⟨_, es', ep', hL, r'⟩) hok I.bare
theorem Inv.call {g' : Array GenState} {t' : Nat} {d' : Drawn} {ch : List Addr} (I : Inv X pins σ H s) (u : Un (frs X.stack) ch H H' s.heap h') (hok : HOk X.prog X.w H' h') (hg : AllBare g')
    (hch : ∀ b ∈ ch, (b ∈ X.ex ∨ X.s_0.heap.objs.size ≤ b) ∧ b ≠ X.env.locals ∧ (∀ x c, X.env.cells.lookup x = some c → c ≠ b) ∧ ∀ p ∈ X.pn ++ pins, p.1 ≠ b) :
    Inv X pins σ H' { s with heap := h', gens := g', drawn := d', toks := t' } := by
  obtain ⟨m, ⟨o, es, ep, ho, r⟩, _⟩ := id I.loc
  obtain ⟨sl, hL⟩ := u.any ho I.free fun z => (hch _ z).2.1 rfl
  exact I.step (ch := ch) hch (fun b o hL hb hc e n => u.keep b o e n (fun z => (List.mem_cons.mp (I.stkSub b z)).elim hL hb) hc) (fun b o _ _ hc e n => u.any e n hc) (fun b o hc e n => u.free b o e n hc) (fun b o hc e => u.there b o e hc) u.tups u.frzs u.tbls (fun m' hm => by
    obtain ⟨o', es', ep', ho', r'⟩ := hm
    rw [ho] at ho'; cases ho'
    exact ⟨_, es', ep', hL, r'⟩) hok hg
theorem Inv.turned {t' : Nat} {it : Addr} (I : Inv X pins σ H s) (k : ∀ b o, b ≠ it → s.heap.get? b = some o → h'.get? b = some o) (hn : H it = none) (hL : it ≠ X.env.locals)
    (h1 : it ∈ X.ex ∨ X.s_0.heap.objs.size ≤ it) (h2 : ∀ x c, X.env.cells.lookup x = some c → c ≠ it) (h3 : ∀ p ∈ X.pn ++ pins, p.1 ≠ it) : Inv X pins σ H { s with heap := h', toks := t' } := by
  have nit : ∀ b u, H b = some u → b ≠ it := fun b u e z => by rw [z, hn] at e; cases e
  refine I.step (g' := s.gens) (d' := s.drawn) (ch := [it]) (fun b hb => ?_) (fun b o _ _ hc e _ => k b o (fun z => hc (by simp [z])) e) (fun b o _ _ hc e _ => ⟨o.slots, k b o (fun z => hc (by simp [z])) e⟩) (fun _ _ _ _ n => n)
    (fun b o hc e => ⟨o, k b o (fun z => hc (by simp [z])) e⟩) (fun _ _ e => e) (fun _ _ _ e => e) (fun b ps e => ⟨#[], by rw [e]; simp⟩) (fun m hm => ?_) (fun b u e => ?_) I.bare
  · have e : b = it := by simpa using hb
    subst e
    exact ⟨h1, hL, h2, h3⟩
  · obtain ⟨o, es, ep, ho, r⟩ := hm
    exact ⟨o, es, ep, k _ o (Ne.symm hL) ho, r⟩
  · refine (I.hok b u e).stay (fun c v hc q => k c v ?_ q) (fun _ q => q) fun _ _ q => q
    rcases hc with z | z
    · rw [z]; exact nit b u e
    · exact nit c _ z
theorem Inv.tok (I : Inv X pins σ H s) (t : Nat) : Inv X pins σ H { s with toks := t } := I.un (h' := s.heap) (t' := t) Un.refl I.hok
theorem Inv.kept {t' : Nat} (I : Inv X pins σ H s) (k : ∀ b u, s.heap.get? b = some u → h'.get? b = some u) : Inv X pins σ H { s with heap := h', toks := t' } := I.un (Un.kept k) (I.hok.kept k)
theorem Inv.laid {a : Addr} {o : HO} {t' : Nat} (I : Inv X pins σ H s) (k : ∀ b u, s.heap.get? b = some u → h'.get? b = some u) (hp : s.heap.objs.size ≤ a) (new : ObjOk X.prog X.w (upd H a o) h' a o) :
    Inv X pins σ (upd H a o) { s with heap := h', toks := t' } := I.un (Un.laid k hp (I.hok.fresh hp)) (I.hok.laid k hp new)
theorem Inv.write {x e : Addr} {o : HO} {t' : Nat} (I : Inv X pins σ H s) (mu : Mut (H x)) (he : e = x ∨ H e = some (.own x)) (k : ∀ b u, b ≠ e → s.heap.get? b = some u → h'.get? b = some u) (heo : ∃ u, h'.get? e = some u)
    (new : ObjOk X.prog X.w (upd H x o) h' x o) : Inv X pins σ (upd H x o) { s with heap := h', toks := t' } := I.un (Un.write mu he k heo) (I.hok.write mu he k heo new)
theorem Inv.weak {σ' : List (Option V)} (I : Inv X pins σ H s) (hl : σ'.length = σ.length) (w : ∀ (i : Nat) v, σ'[i]? = some (some v) → σ[i]? = some (some v)) : Inv X pins σ' H s :=
  ⟨I.ok, I.os, I.bare, I.base, let ⟨m, hn, hl'⟩ := I.loc; ⟨m, hn, fun i x v e1 e2 e3 => hl' i x v e1 (w i v e2) e3⟩, I.cell, I.free, I.freeC, I.pin, I.hok, hl.trans I.len⟩
theorem Inv.pins_of {pins' : List (Addr × Obj)} (I : Inv X pins σ H s) (h : ∀ p ∈ pins', s.heap.get? p.1 = some p.2 ∧ H p.1 = none ∧ p.1 ≠ X.env.locals ∧ p.1 ∉ X.fs ∧ ∀ v, p.2.data ≠ .cell v) : Inv X pins' σ H s :=
  ⟨I.ok, I.os, I.bare, I.base, I.loc, I.cell, I.free, I.freeC, fun p hp => (List.mem_append.mp hp).elim (fun z => I.pin p (List.mem_append_left _ z)) (h p), I.hok, I.len⟩
theorem nodup_ix {N : List Str} (hN : N.Nodup) {i j : Nat} {x : Str} (a : N[i]? = some x) (b : N[j]? = some x) : i = j := by
  obtain ⟨h1, e1⟩ := List.getElem?_eq_some_iff.mp a
  obtain ⟨h2, e2⟩ := List.getElem?_eq_some_iff.mp b
  exact (List.getElem_inj hN).mp (e1.trans e2.symm)
theorem store_ok2 {M : Model} {A : Around} {E : Value → Shared → Prop} {i : Nat} {x : Str} {v : V} {u : Value} {Q : Unit → Shared → Prop} (I : Inv X pins σ H s) (hN : X.N.Nodup) (hi : X.N[i]? = some x) (hx : Loc X.env.scope x) (r : RelV v u)
    (h : ∀ s', Inv X pins (σ.set i (some v)) H s' → (∃ a, Heap.SameBut a s.heap s'.heap ∧ (a = X.env.locals ∨ X.env.cells.lookup x = some a)) → Q () s') (hf : X.fn x = true ∨ X.env.scope.names.lookup x = some .local := by first | exact .inl rfl | exact .inr rfl | assumption) : wpAny M A (storeName X.env x u) Q E s := by
  obtain ⟨m, hn, hl⟩ := id I.loc
  have hcls : (X.env.scope.kind == .class || (X.env.scope.kind == .module && X.env.locals != X.env.globals)) = false := by rw [I.ok.kind]; rfl
  have hiσ : i < σ.length := by rw [I.len]; exact (List.getElem?_eq_some_iff.mp hi).1
  have cne := I.cne
  have tracked : ∀ {a : Addr} {h' : Heap}, (∃ o, s.heap.get? a = some o ∧ H a = none) → Heap.SameBut a s.heap h' → HOk X.prog X.w H h' := fun {a h'} ha hs b ob e => by
    obtain ⟨_, _, hfree⟩ := ha
    refine (I.hok b ob e).stay (fun c w' hc q => (hs.2 c ?_).trans q) (fun _ q => q) fun _ _ q => q
    rintro rfl
    rcases hc with rfl | hc
    · rw [hfree] at e; cases e
    · rw [hfree] at hc; cases hc
  rcases hx with hk | hk
  · refine wpAny_storeName_local hk hn (fun h' hn' hs => ?_) hcls
    obtain ⟨oL, _, _, hoL, _⟩ := id hn
    refine h _ ⟨I.ok, I.os, I.bare, ⟨fun b o e n hb hx => ?_, fun b o e n hb hx => ?_, I.base.free, fun b o e hx => ?_, I.base.tups, I.base.frzs, I.base.tbls⟩, ⟨_, hn', fun j y v' e1 e2 e3 => ?_⟩, fun y c e => ?_, I.free, I.freeC, fun p hp => ?_, tracked ⟨oL, hoL, I.free⟩ hs, by simpa using I.len⟩ ⟨_, hs, .inl rfl⟩
    · exact (hs.2 b (Nat.ne_of_lt (Nat.lt_of_lt_of_le (Heap.lt_size e) I.ok.above))).trans (I.base.keep b o e n hb hx)
    · obtain ⟨sl, e1⟩ := I.base.slot b o e n hb hx
      exact ⟨sl, (hs.2 b (Nat.ne_of_lt (Nat.lt_of_lt_of_le (Heap.lt_size e) I.ok.above))).trans e1⟩
    · obtain ⟨o', e1⟩ := I.base.there b o e hx
      exact ⟨o', (hs.2 b (Nat.ne_of_lt (Nat.lt_of_lt_of_le (Heap.lt_size e) I.ok.above))).trans e1⟩
    · by_cases hj : j = i
      · subst hj
        rw [hi] at e1; cases e1
        rw [List.getElem?_set_self hiσ] at e2
        cases e2
        exact ⟨u, r, .inl ⟨hk, by simp⟩⟩
      · rw [List.getElem?_set_ne (Ne.symm hj)] at e2
        obtain ⟨u', r', q⟩ := hl j y v' e1 e2 e3
        refine ⟨u', r', ?_⟩
        rcases q with ⟨k, e⟩ | ⟨k, c, e, z⟩
        · refine .inl ⟨k, ?_⟩
          have : y ≠ x := fun e => hj (nodup_ix hN e1 (e ▸ hi))
          simp [this, e]
        · exact .inr ⟨k, c, e, z.sameBut hs (cne y c e)⟩
    · obtain ⟨w', z⟩ := I.cell y c e
      exact ⟨w', z.sameBut hs (cne y c e)⟩
    · obtain ⟨e, n, ne, nf, d⟩ := I.pin p hp
      exact ⟨(hs.2 p.1 ne).trans e, n, ne, nf, d⟩
  · have hfn : X.fn x = true := by
      rcases hf with z | z
      · exact z
      · rw [z] at hk; cases hk
    obtain ⟨c, hc⟩ := I.ok.has x (.inl hk)
    obtain ⟨w', z⟩ := I.cell x c hc
    refine wpAny_storeName_cell I.ok.kind hk hc z (fun h' hc' hs => ?_)
    obtain ⟨oc, hoc, hocd⟩ := id z
    refine h { s with heap := h' } ⟨I.ok, I.os, I.bare, ⟨fun b o e n hb hx => ?_, fun b o e n hb hx => ?_, I.base.free, fun b o e hx => ?_, I.base.tups, I.base.frzs, I.base.tbls⟩, ⟨m, hn.sameBut hs (Ne.symm (cne x c hc)), fun j y v' e1 e2 e3 => ?_⟩, fun y c' e => ?_, I.free, I.freeC, fun p hp => ?_, tracked ⟨oc, hoc, I.freeC x c hc⟩ hs, by simpa using I.len⟩ ⟨c, hs, .inr hc⟩
    · exact (hs.2 b (Nat.ne_of_lt (Nat.lt_of_lt_of_le (Heap.lt_size e) (I.ok.cab x c hfn hc)))).trans (I.base.keep b o e n hb hx)
    · obtain ⟨sl, e1⟩ := I.base.slot b o e n hb hx
      exact ⟨sl, (hs.2 b (Nat.ne_of_lt (Nat.lt_of_lt_of_le (Heap.lt_size e) (I.ok.cab x c hfn hc)))).trans e1⟩
    · obtain ⟨o', e1⟩ := I.base.there b o e hx
      exact ⟨o', (hs.2 b (Nat.ne_of_lt (Nat.lt_of_lt_of_le (Heap.lt_size e) (I.ok.cab x c hfn hc)))).trans e1⟩
    · by_cases hj : j = i
      · subst hj
        rw [hi] at e1; cases e1
        rw [List.getElem?_set_self hiσ] at e2
        cases e2
        exact ⟨u, r, .inr ⟨.inl hk, c, hc, hc'⟩⟩
      · rw [List.getElem?_set_ne (Ne.symm hj)] at e2
        obtain ⟨u', r', q⟩ := hl j y v' e1 e2 e3
        refine ⟨u', r', ?_⟩
        rcases q with q | ⟨k, c', e, z'⟩
        · exact .inl q
        · refine .inr ⟨k, c', e, z'.sameBut hs ?_⟩
          rintro rfl
          exact hj (nodup_ix hN e1 (I.ok.inj _ _ _ e hc ▸ hi))
    · by_cases hcc : c' = c
      · subst hcc; exact ⟨_, hc'⟩
      · obtain ⟨w2, z2⟩ := I.cell y c' e
        exact ⟨w2, z2.sameBut hs hcc⟩
    · obtain ⟨e, n, ne, nf, d⟩ := I.pin p hp
      refine ⟨(hs.2 p.1 ?_).trans e, n, ne, nf, d⟩
      intro q
      rw [q, hoc] at e
      have q' : oc = p.2 := Option.some.inj e
      exact d w' (by rw [← q']; exact hocd)
theorem store_ok {M : Model} {A : Around} {E : Value → Shared → Prop} {i : Nat} {x : Str} {v : V} {u : Value} {Q : Unit → Shared → Prop} (I : Inv X pins σ H s) (hN : X.N.Nodup) (hi : X.N[i]? = some x) (hx : Loc X.env.scope x) (r : RelV v u)
    (h : ∀ s', Inv X pins (σ.set i (some v)) H s' → Q () s') (hf : X.fn x = true ∨ X.env.scope.names.lookup x = some .local := by first | exact .inl rfl | exact .inr rfl | assumption) : wpAny M A (storeName X.env x u) Q E s :=
  store_ok2 I hN hi hx r (fun s' I' _ => h s' I') hf
theorem Inv.call' {s' : Shared} {ch : List Addr} (I : Inv X pins σ H s) (ho : s'.os = s.os) (u : Un (frs X.stack) ch H H' s.heap s'.heap) (hok : HOk X.prog X.w H' s'.heap) (hg : AllBare s'.gens)
    (hch : ∀ b ∈ ch, (b ∈ X.ex ∨ X.s_0.heap.objs.size ≤ b) ∧ b ≠ X.env.locals ∧ (∀ x c, X.env.cells.lookup x = some c → c ≠ b) ∧ ∀ p ∈ X.pn ++ pins, p.1 ≠ b) : Inv X pins σ H' s' := by
  obtain ⟨h', g', d', t', o'⟩ := s'
  have e : o' = s.os := ho
  subst e
  exact I.call (g' := g') (t' := t') (d' := d') u hok hg hch
end
abbrev XK := Value → Option Addr → Hp → Prop
abbrev St := List (Option V)
abbrev VK := V → Hp → Prop
abbrev TE := St → Hp → VK → Prop
abbrev TT := St → Hp → (Bool → Hp → Prop) → Prop
abbrev TA := St → Hp → (List V → Hp → Prop) → Prop
structure Ends where
  nx : St → Hp → Prop
  rt : VK
  bk : St → Hp → Prop := fun _ _ => False
  ct : St → Hp → Prop := fun _ _ => False
abbrev TS := Ends → St → Hp → Prop
def EP (X : Cx) (pins : List (Addr × Obj)) (σ : St) (Q : VK) (u : Value) (s' : Shared) : Prop := ∃ v H', Inv X pins σ H' s' ∧ RelV v u ∧ Q v H'
def TP (X : Cx) (pins : List (Addr × Obj)) (σ : St) (Q : Bool → Hp → Prop) (b : Bool) (s' : Shared) : Prop := ∃ H', Inv X pins σ H' s' ∧ Q b H'
def AP (X : Cx) (pins : List (Addr × Obj)) (σ : St) (Q : List V → Hp → Prop) (us : List Value) (s' : Shared) : Prop := ∃ vs H', Inv X pins σ H' s' ∧ Vals vs us ∧ Q vs H'
def SP (X : Cx) (pins : List (Addr × Obj)) (D : Ends) (f : Flow) (s' : Shared) : Prop :=
  match f with
  | .next => ∃ σ' H', Inv X pins σ' H' s' ∧ D.nx σ' H'
  | .brk => ∃ σ' H', Inv X pins σ' H' s' ∧ D.bk σ' H'
  | .cont => ∃ σ' H', Inv X pins σ' H' s' ∧ D.ct σ' H'
  | .ret u => ∃ v σ' H', Inv X pins σ' H' s' ∧ RelV v u ∧ D.rt v H'
def PE (X : Cx) (e : Expr) (t : TE) : Prop :=
  ∀ (pins : List (Addr × Obj)) (s : Shared) (σ : St) (H : Hp) (Q : VK), Inv X pins σ H s → t σ H Q → wpAny (model X.prog X.w) X.A (eval e X.env) (EP X pins σ Q) X.xe s
def PT (X : Cx) (e : Expr) (t : TT) : Prop :=
  ∀ (pins : List (Addr × Obj)) (s : Shared) (σ : St) (H : Hp) (Q : Bool → Hp → Prop), Inv X pins σ H s → t σ H Q → wpAny (model X.prog X.w) X.A (isTrue e X.env (eval e X.env)) (TP X pins σ Q) X.xe s
def PW (X : Cx) (e : Expr) (t : TT) : Prop :=
  ∀ (whole : Sem Value) (pins : List (Addr × Obj)) (s : Shared) (σ : St) (H : Hp) (Q : Bool → Hp → Prop), Inv X pins σ H s → t σ H Q → wpAny (model X.prog X.w) X.A (isTrue e X.env whole) (TP X pins σ Q) X.xe s
theorem PW.pt {X : Cx} {e : Expr} {t : TT} (h : PW X e t) : PT X e t := h _
def PA (X : Cx) (es : List Expr) (t : TA) : Prop :=
  ∀ (pos : Pos) (pins : List (Addr × Obj)) (s : Shared) (σ : St) (H : Hp) (Q : List V → Hp → Prop), Inv X pins σ H s → t σ H Q → wpAny (model X.prog X.w) X.A (spliced (backTo pos (starEach es X.env))) (AP X pins σ Q) X.xe s
def PS (X : Cx) (st : Stmt) (t : TS) : Prop :=
  ∀ (pins : List (Addr × Obj)) (s : Shared) (σ : St) (H : Hp) (D : Ends), Inv X pins σ H s → t D σ H → wpAny (model X.prog X.w) X.A (exec st X.env) (SP X pins D) X.xe s
def PSs (X : Cx) (st : List Stmt) (t : TS) : Prop :=
  ∀ (pins : List (Addr × Obj)) (s : Shared) (σ : St) (H : Hp) (D : Ends), Inv X pins σ H s → t D σ H → wpAny (model X.prog X.w) X.A (execs st X.env) (SP X pins D) X.xe s
theorem thn {α : Type} {t : Sem α} {Q Q' : α → Shared → Prop} {M : Model} {A : Around} {E : Value → Shared → Prop} {s : Shared} (h : wpAny M A t Q E s) (hQ : ∀ a s, Q a s → Q' a s) : wpAny M A t Q' E s := wpAny_mono h hQ fun _ _ x => x
end L2
namespace L2
open PySem PySem.Spec PyProof.Rows
section
variable {X : Cx}
def tVar (i : Nat) : TE := fun σ H Q => ∃ v, σ[i]? = some (some v) ∧ Q v H
def tC (v : V) : TE := fun _ H Q => Q v H
theorem pe_var {i : Nat} {x : Str} {pos : Pos} (hN : X.N[i]? = some x) (hv : Vis X.env.scope x) (hd : (x == ("__debug__" : Str)) = false := by decide) (hcd : (x == ("__classdict__" : Str)) = false := by decide) : PE X (.Name x pos) (tVar i) := by
  intro pins s σ H Q I h
  obtain ⟨v, e, h⟩ := h
  obtain ⟨m, hn, hl⟩ := I.loc
  obtain ⟨u, r, l⟩ := hl i x v hN e hv
  have fin : EP X pins σ Q u s := ⟨v, H, I, r, h⟩
  rcases l with ⟨hk, hm⟩ | ⟨hk, c, hc, hcell⟩
  · exact wpAny_Name (wpAny_loadName_local I.ok.kind hk hn hm fin) hd
  · rcases hk with hk | hk
    · exact wpAny_Name (wpAny_loadName_cell I.ok.kind hk hc hcell fin) hd
    · exact wpAny_Name (wpAny_loadName_free I.ok.kind hk hc hcell fin hcd) hd
theorem pe_int {i j pos} : PE X (.Constant (.int i) j pos) (tC (.int i)) := fun _ _ _ H _ I h => wpAny_Constant_int ⟨.int i, H, I.tok _, ⟨_, rfl⟩, h⟩
theorem pe_bl {b j pos} : PE X (.Constant (.bool b) j pos) (tC (.bl b)) := fun _ _ _ H _ I h => Constant_bool ⟨.bl b, H, I, rfl, h⟩
theorem pe_non {j pos} : PE X (.Constant .none j pos) (tC .non) := fun _ _ _ H _ I h => Constant_none ⟨.non, H, I, rfl, h⟩
theorem pe_str {x j pos} : PE X (.Constant (.str x) j pos) (tC (.str x)) := fun _ _ _ H _ I h => Calls.Constant_str ⟨.str x, H, I.tok _, ⟨_, rfl⟩, h⟩
def Gl (X : Cx) (x : Str) : Prop := X.env.kindOf x = some .globalImplicit
theorem ld_glob {E : Value → Shared → Prop} {pins : List (Addr × Obj)} {s : Shared} {σ : St} {H : Hp} {x : Str} {u : Value} {pos : Pos} {Q : Value → Shared → Prop} (I : Inv X pins σ H s) (hg : Gl X x) (hm : X.mg x = some u) (h : Q u s)
    (hd : (x == ("__debug__" : Str)) = false := by decide) : wpAny (model X.prog X.w) X.A (eval (.Name x pos) X.env) Q E s :=
  Calls.Name_function_global I.ok.kind hg (Calls.loadGlobal_global (by rw [I.ok.glob]; exact I.mod.glob.keeps I.bk) hm h) hd
theorem ld_blt {E : Value → Shared → Prop} {pins : List (Addr × Obj)} {s : Shared} {σ : St} {H : Hp} {x : Str} {u : Value} {pos : Pos} {Q : Value → Shared → Prop} (I : Inv X pins σ H s) (hg : Gl X x) (hm : X.mg x = none) (hv : bootBuiltins x = some u) (h : Q u s)
    (hn : x ≠ "__name__" := by decide) (hd : (x == ("__debug__" : Str)) = false := by decide) : wpAny (model X.prog X.w) X.A (eval (.Name x pos) X.env) Q E s := by
  obtain ⟨mb, h1, h2⟩ := I.mod.blt
  exact Calls.Name_function_global I.ok.kind hg (Calls.loadGlobal_builtin (by rw [I.ok.glob]; exact I.mod.glob.keeps I.bk) hm (by rw [I.ok.blt]; exact h1.keeps I.bk) ((h2 x hn).trans hv) h) hd
theorem pe_glob {x : Str} {v : V} {u : Value} {pos : Pos} (hg : Gl X x) (hm : X.mg x = some u) (r : RelV v u) (hd : (x == ("__debug__" : Str)) = false := by decide) : PE X (.Name x pos) (tC v) :=
  fun _ _ _ H _ I h => ld_glob I hg hm ⟨v, H, I, r, h⟩ hd
variable {a b : Expr} {ta tb : TE} {pos : Pos}
def PC (X : Cx) (op : CmpOp) (a b : Expr) (t : TE) : Prop :=
  ∀ (pins : List (Addr × Obj)) (s : Shared) (σ : St) (H : Hp) (Q : VK), Inv X pins σ H s → t σ H Q →
    wpAny (model X.prog X.w) X.A (eval a X.env) (fun v s₁ => wpAny (model X.prog X.w) X.A (eval b X.env) (fun u s₂ => wpAny (model X.prog X.w) X.A (compareOp op v u) (EP X pins σ Q) X.xe s₂) X.xe s₁) X.xe s
theorem nobehind (b : Expr) {op : CmpOp} (h : op ≠ .In) (h2 : op ≠ .NotIn) : behindInMarks op b = false := by
  have e1 : (op == CmpOp.In) = false := by cases op <;> first | rfl | exact absurd rfl h
  have e2 : (op == CmpOp.NotIn) = false := by cases op <;> first | rfl | exact absurd rfl h2
  cases b <;> simp [behindInMarks, e1, e2]
def tIsN (ta : TE) : TE := fun σ H Q => ta σ H fun x H1 => Q (.bl (decide (x = .non))) H1
theorem RelV.none_iff {x : V} {v : Value} (r : RelV x v) : (v == Value.none) = decide (x = .non) := by
  cases x with
  | non => cases r; rfl
  | bl _ => cases r; rfl
  | int _ => obtain ⟨t, rfl⟩ := r; rfl
  | str _ => obtain ⟨t, rfl⟩ := r; rfl
  | byt _ => obtain ⟨t, rfl⟩ := r; rfl
  | flt _ => obtain ⟨t, rfl⟩ := r; rfl
  | ref _ => cases r; rfl
  | ty _ => cases r; rfl
theorem pc_isN {j pos'} (ha : PE X a ta) : PC X .Is a (.Constant .none j pos') (tIsN ta) := by
  intro pins s σ H Q I h
  refine thn (ha pins s σ H _ I h) fun v s1 ⟨x, H1, I1, r1, q1⟩ => ?_
  exact Constant_none (is_none_gen ⟨.bl _, H1, I1, by rw [r1.none_iff]; rfl, q1⟩)
def tB (t : TE) : TT := fun σ H Q => t σ H fun x H1 => ∃ c, x = .bl c ∧ Q c H1
theorem pt_cmp {op : CmpOp} {t : TE} (h : PC X op a b t) (h1 : behindInMarks op b = false := by first | exact nobehind _ (by decide) (by decide) | rfl) : PT X (.Compare a [op] [b] pos) (tB t) := by
  intro pins s σ H Q I hw
  refine wpAny_isTrue_Compare1 (thn (h pins s σ H _ I hw) fun v s1 h1 => thn h1 fun u s2 h2 => thn h2 fun c s3 ⟨x, H1, I1, r1, q1⟩ => ?_) h1
  obtain ⟨d, rfl, q⟩ := q1
  cases r1
  exact wpAny_truthy_bool ⟨H1, I1, q⟩
theorem pt_val {e : Expr} {t : TE} (h : PE X e t) (he : ∀ whole, isTrue e X.env whole = (do let v ← whole; standAt e.pos; holding [v] (truthy v)) := by intro _; rfl) : PT X e (tB t) := by
  intro pins s σ H Q I hw
  refine isTrue_plain (thn (h pins s σ H _ I hw) fun v s1 ⟨x, H1, I1, r1, q1⟩ => ?_) (he _)
  obtain ⟨d, rfl, q⟩ := q1
  cases r1
  exact wpAny_truthy_bool ⟨H1, I1, q⟩
variable {tA tB' : TT} {rest : List Expr}
def tAnd (t u : TT) : TT := fun σ H Q => t σ H fun c H1 => if c = true then u σ H1 Q else Q false H1
def tOr (t u : TT) : TT := fun σ H Q => t σ H fun c H1 => if c = true then Q true H1 else u σ H1 Q
def tNot (t : TT) : TT := fun σ H Q => t σ H fun c H1 => Q (!c) H1
theorem pw_and1 (ha : PT X a tA) : PW X (.BoolOp .And [a] pos) tA := by
  intro wh pins s σ H Q I h
  refine isTrue_and (thn (ha pins s σ H Q I h) fun c s1 e => ?_)
  cases c with
  | true => exact isTrue_and_nil e
  | false => exact e
theorem pw_or1 (ha : PT X a tA) : PW X (.BoolOp .Or [a] pos) tA := by
  intro wh pins s σ H Q I h
  refine isTrue_or (thn (ha pins s σ H Q I h) fun c s1 e => ?_)
  cases c with
  | false => exact isTrue_or_nil e
  | true => exact e
theorem pw_and (ha : PT X a tA) (hb : PW X (.BoolOp .And (b :: rest) pos) tB') : PW X (.BoolOp .And (a :: b :: rest) pos) (tAnd tA tB') := by
  intro wh pins s σ H Q I h
  refine isTrue_and (thn (ha pins s σ H _ I h) fun c s1 ⟨H1, I1, q1⟩ => ?_)
  cases c with
  | true => exact hb wh pins s1 σ H1 Q I1 q1
  | false => exact ⟨H1, I1, q1⟩
theorem pw_or (ha : PT X a tA) (hb : PW X (.BoolOp .Or (b :: rest) pos) tB') : PW X (.BoolOp .Or (a :: b :: rest) pos) (tOr tA tB') := by
  intro wh pins s σ H Q I h
  refine isTrue_or (thn (ha pins s σ H _ I h) fun c s1 ⟨H1, I1, q1⟩ => ?_)
  cases c with
  | true => exact ⟨H1, I1, q1⟩
  | false => exact hb wh pins s1 σ H1 Q I1 q1
theorem pt_not (ha : PT X a tA) : PT X (.UnaryOp .Not a pos) (tNot tA) := by
  intro pins s σ H Q I h
  exact isTrue_not (ha pins s σ H (fun c H1 => Q (!c) H1) I h)
def tAndV (ta tb : TE) : TE := fun σ H Q => ta σ H fun x H1 => ∃ c, x = .bl c ∧ if c = true then tb σ H1 Q else Q (.bl false) H1
def tOrV (ta tb : TE) : TE := fun σ H Q => ta σ H fun x H1 => ∃ c, x = .bl c ∧ if c = true then Q (.bl true) H1 else tb σ H1 Q
def tNotV (ta : TE) : TE := fun σ H Q => ta σ H fun x H1 => ∃ c, x = .bl c ∧ Q (.bl (!c)) H1
theorem pe_one {op} {t : TE} (h : PE X a t) : PE X (.BoolOp op [a] pos) t := fun pins s σ H Q I hw => BoolOp_one (h pins s σ H Q I hw)
theorem pe_and (ha : PE X a ta) (hb : PE X (.BoolOp .And (b :: rest) pos) tb) : PE X (.BoolOp .And (a :: b :: rest) pos) (tAndV ta tb) := by
  intro pins s σ H Q I h
  refine BoolOp_and (thn (ha pins s σ H _ I h) fun v s1 ⟨x, H1, I1, r1, q1⟩ => ?_)
  obtain ⟨c, rfl, q1⟩ := q1
  cases r1
  refine wpAny_truthy_bool ?_
  cases c with
  | true => exact hb pins s1 σ H1 Q I1 q1
  | false => exact ⟨.bl false, H1, I1, rfl, q1⟩
theorem pe_or (ha : PE X a ta) (hb : PE X (.BoolOp .Or (b :: rest) pos) tb) : PE X (.BoolOp .Or (a :: b :: rest) pos) (tOrV ta tb) := by
  intro pins s σ H Q I h
  refine BoolOp_or (thn (ha pins s σ H _ I h) fun v s1 ⟨x, H1, I1, r1, q1⟩ => ?_)
  obtain ⟨c, rfl, q1⟩ := q1
  cases r1
  refine wpAny_truthy_bool ?_
  cases c with
  | false => exact hb pins s1 σ H1 Q I1 q1
  | true => exact ⟨.bl true, H1, I1, rfl, q1⟩
def tIf (t : TT) (ta tb : TE) : TE := fun σ H Q => t σ H fun c H1 => if c = true then ta σ H1 Q else tb σ H1 Q
theorem pe_ifExp {c : Expr} (hc : PT X c tA) (ha : PE X a ta) (hb : PE X b tb) : PE X (.IfExp c a b pos) (tIf tA ta tb) := by
  intro pins s σ H Q I h
  refine wpAny_IfExp (thn (hc pins s σ H _ I h) fun d s1 ⟨H1, I1, q1⟩ => ?_)
  cases d with
  | true => exact ha pins s1 σ H1 Q I1 q1
  | false => exact hb pins s1 σ H1 Q I1 q1
end
end L2
namespace L2
open PySem PySem.Spec PyProof.Rows
def SqL (K : PySem.W.Frag) (H : Hp) (a : Addr) (xs : List V) : Prop :=
  Rd H a (.lst xs) ∨
    ∃ (o : Obj) (its : Array Value) (n : Nat), K.lookup a = some o ∧ o.cls = .type "list" ∧ o.dict = none ∧ o.data = .seq its n ∧ its.size ≤ sizeLine ∧ Vals xs its.toList
def SqT (K : PySem.W.Frag) (H : Hp) (a : Addr) (xs : List V) : Prop :=
  Rd H a (.tup xs) ∨
    ∃ (o : Obj) (its : Array Value) (n : Nat), K.lookup a = some o ∧ o.cls = .type "tuple" ∧ o.data = .seq its n ∧ its.size ≤ sizeLine ∧ Vals xs its.toList
def absV : Value → Option V
  | .none => some .non
  | .bool b => some (.bl b)
  | .int i _ => some (.int i)
  | .str x _ => some (.str x)
  | .bytes b _ => some (.byt b)
  | .float b _ => some (.flt b)
  | .ref a => some (.ref a)
  | .type n => some (.ty n)
  | _ => none
theorem RelV.abs {x : V} {u : Value} (r : RelV x u) : absV u = some x := by
  cases x with
  | non => cases r; rfl
  | bl _ => cases r; rfl
  | int _ => obtain ⟨t, rfl⟩ := r; rfl
  | str _ => obtain ⟨t, rfl⟩ := r; rfl
  | byt _ => obtain ⟨t, rfl⟩ := r; rfl
  | flt _ => obtain ⟨t, rfl⟩ := r; rfl
  | ref _ => cases r; rfl
  | ty _ => cases r; rfl
theorem RelV.inj {x y : V} {u : Value} (r : RelV x u) (q : RelV y u) : x = y := Option.some.inj (r.abs.symm.trans q.abs)
theorem Vals.inj : ∀ {xs ys : List V} {us : List Value}, Vals xs us → Vals ys us → xs = ys
  | _, _, _, .nil, .nil => rfl
  | _, _, _, .cons r t, .cons r' t' => by rw [r.inj r', Vals.inj t t']
section
variable {X : Cx} {pins : List (Addr × Obj)} {σ : St} {H : Hp} {s : Shared} {a : Addr} {xs ys : List V}
theorem SqL.of {K : PySem.W.Frag} (h : H a = some (.lst xs)) : SqL K H a xs := .inl (.inl h)
theorem SqT.of {K : PySem.W.Frag} (h : H a = some (.tup xs)) : SqT K H a xs := .inl (.inl h)
theorem Inv.list (I : Inv X pins σ H s) (h : SqL X.K H a xs) : ∃ its : List Value, Vals xs its ∧ PlainL s.heap a its.toArray ∧ xs.length ≤ sizeLine := by
  rcases h with h | ⟨o, its, n, hk, hc, hd, hs, hz, r⟩
  · obtain ⟨z, its, n, r, e⟩ := h.ok I.hok
    exact ⟨its, r, ⟨_, n, e, rfl, rfl, rfl⟩, z⟩
  · refine ⟨its.toList, r, ⟨o, n, I.kIn a o hk, hc, hd, by simpa using hs⟩, ?_⟩
    have e := r.length
    simp only [Array.length_toList] at e
    omega
theorem Inv.tuple (I : Inv X pins σ H s) (h : SqT X.K H a xs) : ∃ its : List Value, Vals xs its ∧ IsTup s.heap a its.toArray ∧ xs.length ≤ sizeLine := by
  rcases h with h | ⟨o, its, n, hk, hc, hs, hz, r⟩
  · obtain ⟨z, its, r, p⟩ := h.ok I.hok
    exact ⟨its, r, p, z⟩
  · refine ⟨its.toList, r, ⟨o, I.kIn a o hk, hc, n, by simpa using hs⟩, ?_⟩
    have e := r.length
    simp only [Array.length_toList] at e
    omega
theorem Inv.list_inj (I : Inv X pins σ H s) (h : SqL X.K H a xs) (h' : SqL X.K H a ys) : xs = ys := by
  obtain ⟨its, r, ⟨o, n, e, _, _, d⟩, _⟩ := I.list h
  obtain ⟨its', r', ⟨o', n', e', _, _, d'⟩, _⟩ := I.list h'
  rw [e] at e'; cases e'
  rw [d] at d'
  injection d' with d1 _
  have : its = its' := by simpa using congrArg Array.toList d1
  subst this
  exact r.inj r'
theorem Inv.tuple_inj (I : Inv X pins σ H s) (h : SqT X.K H a xs) (h' : SqT X.K H a ys) : xs = ys := by
  obtain ⟨its, r, ⟨o, e, _, n, d⟩, _⟩ := I.tuple h
  obtain ⟨its', r', ⟨o', e', _, n', d'⟩, _⟩ := I.tuple h'
  rw [e] at e'; cases e'
  rw [d] at d'
  injection d' with d1 _
  have : its = its' := by simpa using congrArg Array.toList d1
  subst this
  exact r.inj r'
end
section
variable {X : Cx} {pins : List (Addr × Obj)} {σ : St} {H : Hp} {s : Shared} {E : Value → Shared → Prop}
end
section
variable {X : Cx} {st : Stmt} {rest : List Stmt} {t u : TS} {e : Expr} {te : TE} {pos : Pos}
def tNext : TS := fun D σ H => D.nx σ H
def tSeq (t u : TS) : TS := fun D σ H => t { D with nx := u D } σ H
theorem pss_nil : PSs X [] tNext := fun _ _ σ H _ I h => wpAny_execs_nil ⟨σ, H, I, h⟩
theorem pss_cons (h1 : PS X st t) (h2 : PSs X rest u) : PSs X (st :: rest) (tSeq t u) := by
  intro pins s σ H D I h
  refine wpAny_execs_cons (thn (h1 pins s σ H { D with nx := u D } I h) fun f s1 q => ?_)
  cases f with
  | next =>
    obtain ⟨σ', H', I', q⟩ := q
    exact h2 pins s1 σ' H' D I' q
  | ret v => exact q
  | brk => exact q
  | cont => exact q
theorem pss_one (h1 : PS X st t) : PSs X [st] t := by
  intro pins s σ H D I h
  refine wpAny_execs_cons (thn (h1 pins s σ H D I h) fun f s1 q => ?_)
  cases f with
  | next => exact wpAny_execs_nil q
  | ret v => exact q
  | brk => exact q
  | cont => exact q
theorem Inv.quiet {pins : List (Addr × Obj)} {σ : St} {H : Hp} {s : Shared} (I : Inv X pins σ H s) : interactive X.env = false := by simp [interactive, I.ok.kind]
def tDrop (te : TE) : TS := fun D σ H => te σ H fun _ H1 => D.nx σ H1
theorem ps_expr (he : PE X e te) (hs : swapsWith e none pos.line X.env = pure false := by rfl) : PS X (.Expr e pos) (tDrop te) := by
  intro pins s σ H D I h
  exact wpAny_Expr_any (thn (he pins s σ H _ I h) fun v s1 ⟨x, H1, I1, r1, q1⟩ => ⟨σ, H1, I1, q1⟩) I.quiet hs
def tRet (te : TE) : TS := fun D σ H => te σ H D.rt
theorem ps_ret (he : PE X e te) : PS X (.Return (some e) pos) (tRet te) := by
  intro pins s σ H D I h
  exact wpAny_Return_some (thn (he pins s σ H _ I h) fun v s1 ⟨x, H1, I1, r1, q1⟩ => ⟨x, σ, H1, I1, r1, q1⟩)
def tRetN : TS := fun D _ H => D.rt .non H
def tIfS (c : TT) (t u : TS) : TS := fun D σ H => c σ H fun b H1 => if b = true then t D σ H1 else u D σ H1
theorem ps_if {c : Expr} {a b : List Stmt} {tc : TT} (hc : PT X c tc) (ha : PSs X a t) (hb : PSs X b u) : PS X (.If c a b pos) (tIfS tc t u) := by
  intro pins s σ H D I h
  refine wpAny_If (thn (hc pins s σ H _ I h) fun d s1 ⟨H1, I1, q1⟩ => ?_)
  cases d with
  | true => exact ha pins s1 σ H1 D I1 q1
  | false => exact hb pins s1 σ H1 D I1 q1
end
abbrev TG := V → St → Hp → (St → Hp → Prop) → Prop
abbrev TGs := List V → St → Hp → (St → Hp → Prop) → Prop
def PG (X : Cx) (target : Expr) (t : TG) : Prop :=
  ∀ (pins : List (Addr × Obj)) (s : Shared) (σ : St) (H : Hp) (v : V) (u : Value) (Q : St → Hp → Prop), Inv X pins σ H s → RelV v u → t v σ H Q →
    wpAny (model X.prog X.w) X.A (assign target X.env u) (fun _ s' => ∃ σ' H', Inv X pins σ' H' s' ∧ Q σ' H') X.xe s
def PGs (X : Cx) (ts : List Expr) (t : TGs) : Prop :=
  ∀ (pins : List (Addr × Obj)) (s : Shared) (σ : St) (H : Hp) (vs : List V) (us : List Value) (Q : St → Hp → Prop), Inv X pins σ H s → Vals vs us → t vs σ H Q →
    wpAny (model X.prog X.w) X.A (assignInOrder ((assignEach ts X.env).map (·.2)) us) (fun _ s' => ∃ σ' H', Inv X pins σ' H' s' ∧ Q σ' H') X.xe s
abbrev TIp := V → V → Hp → VK → Prop
def PIp (X : Cx) (op : Operator) (t : TIp) : Prop :=
  ∀ (pins : List (Addr × Obj)) (s : Shared) (σ : St) (H : Hp) (x y : V) (v u : Value) (Q : VK), Inv X pins σ H s → RelV x v → RelV y u → t x y H Q →
    wpAny (model X.prog X.w) X.A (inplaceOp op v u) (EP X pins σ Q) X.xe s
section
variable {X : Cx} {pos : Pos}
def gName (i : Nat) : TG := fun v σ H Q => Q (σ.set i (some v)) H
theorem pg_name {i : Nat} {x : Str} (hN : X.N.Nodup) (hi : X.N[i]? = some x) (hx : Loc X.env.scope x) (hf : X.fn x = true ∨ X.env.scope.names.lookup x = some .local := by first | exact .inl rfl | exact .inr rfl | assumption) : PG X (.Name x pos) (gName i) := by
  intro pins s σ H v u Q I r h
  exact wpAny_assign_Name (store_ok I hN hi hx r (fun s' I' => ⟨_, H, I', h⟩) hf)
def gNil : TGs := fun vs σ H Q => vs = [] ∧ Q σ H
def gCons (t : TG) (u : TGs) : TGs := fun vs σ H Q => ∃ v r, vs = v :: r ∧ t v σ H fun σ' H' => u r σ' H' Q
theorem pgs_nil : PGs X [] gNil := by
  intro pins s σ H vs us Q I r h
  obtain ⟨e, h⟩ := h
  subst e
  cases r
  exact assignInOrder_nil ⟨σ, H, I, h⟩
theorem pgs_cons {e : Expr} {es : List Expr} {t : TG} {u : TGs} (h1 : PG X e t) (h2 : PGs X es u)
    (hs : (assignEach (e :: es) X.env).map (·.2) = assign e X.env :: (assignEach es X.env).map (·.2) := by rfl) : PGs X (e :: es) (gCons t u) := by
  intro pins s σ H vs us Q I r h
  obtain ⟨v, vr, e1, h⟩ := h
  subst e1
  cases r with
  | cons r rr =>
    rw [hs]
    refine assignInOrder_cons (thn (h1 pins s σ H _ _ _ I r h) fun _ s1 ⟨σ1, H1, I1, q1⟩ => ?_)
    exact h2 pins s1 σ1 H1 _ _ Q I1 rr q1
def gTup (K : PySem.W.Frag) (n : Nat) (t : TGs) : TG := fun v σ H Q => ∃ a xs, v = .ref a ∧ SqT K H a xs ∧ xs.length = n ∧ t xs σ H Q
theorem pg_tup {es : List Expr} {k : Nat} {t : TGs} {n : Nat} (hc : X.calm = true) (h : PGs X es t)
    (hn : (assignEach es X.env).length = n := by rfl) (hst : (assignEach es X.env).findIdx? (·.1) = none := by rfl) : PG X (.Tuple es k pos) (gTup X.K n t) := by
  intro pins s σ H v u Q I r hw
  obtain ⟨a, xs, e1, hq, hl, hw⟩ := hw
  subst e1
  cases r
  obtain ⟨its, rv, ht, hz⟩ := I.tuple hq
  refine assign_Tuple_tuple (I.ok.hd hc) ht (by simp [hn, ← hl, rv.length]) hst fun h' hx => ?_
  have I1 : Inv X pins σ H { s with heap := h' } := I.kept (t' := s.toks) fun b o e => hx b o (Nat.ne_of_lt (Heap.lt_size e)) e
  exact h pins _ σ H xs _ Q I1 (by simpa using rv) hw
def tAsg (te : TE) (g : TG) : TS := fun D σ H => te σ H fun x H1 => g x σ H1 D.nx
theorem ps_set {i : Nat} {x : Str} {e : Expr} {te : TE} {pos' : Pos} (hN : X.N.Nodup) (hi : X.N[i]? = some x) (hx : Loc X.env.scope x) (he : PE X e te) (hs : swapsWith e (some (.Name x pos')) pos.line X.env = pure false := by rfl) (hf : X.fn x = true ∨ X.env.scope.names.lookup x = some .local := by first | exact .inl rfl | exact .inr rfl | assumption) :
    PS X (.Assign [.Name x pos'] e pos) (tAsg te (gName i)) := by
  intro pins s σ H D I h
  refine wpAny_Assign_Name (thn (he pins s σ H _ I h) fun v s1 ⟨y, H1, I1, r1, q1⟩ => ?_) hs
  exact store_ok I1 hN hi hx r1 (fun s2 I2 => ⟨_, H1, I2, q1⟩) hf
def tAug (i : Nat) (te : TE) (ti : TIp) : TS := fun D σ H => ∃ x, σ[i]? = some (some x) ∧ te σ H fun y H1 => ti x y H1 fun z H2 => D.nx (σ.set i (some z)) H2
theorem ps_aug {i : Nat} {x : Str} {e : Expr} {te : TE} {op : Operator} {ti : TIp} {pos' : Pos} (hN : X.N.Nodup) (hi : X.N[i]? = some x) (hx : Loc X.env.scope x) (he : PE X e te) (ho : PIp X op ti) (hf : X.fn x = true ∨ X.env.scope.names.lookup x = some .local := by first | exact .inl rfl | exact .inr rfl | assumption) :
    PS X (.AugAssign (.Name x pos') op e pos) (tAug i te ti) := by
  intro pins s σ H D I h
  obtain ⟨v, e1, h⟩ := h
  obtain ⟨m, hn, hl⟩ := I.loc
  have vis : Vis X.env.scope x := by rcases hx with k | k; exact .inl k; exact .inr (.inl k)
  obtain ⟨u, r, l⟩ := hl i x v hi e1 vis
  refine wpAny_AugAssign_Name ?_
  have go : wpAny (model X.prog X.w) X.A (eval e X.env) (fun w s₂ => wpAny (model X.prog X.w) X.A (inplaceOp op u w) (fun r s₃ => wpAny (model X.prog X.w) X.A (storeName X.env x r) (fun _ => SP X pins D .next) X.xe s₃) X.xe s₂) X.xe s := by
    refine thn (he pins s σ H _ I h) fun w s1 ⟨y, H1, I1, r1, q1⟩ => ?_
    refine thn (ho pins s1 σ H1 v y u w _ I1 r r1 q1) fun z s2 ⟨zv, H2, I2, r2, q2⟩ => ?_
    exact store_ok I2 hN hi hx r2 (fun s3 I3 => ⟨_, H2, I3, q2⟩) hf
  rcases l with ⟨hk, hm⟩ | ⟨hk, c, hc, hcell⟩
  · exact wpAny_loadName_local I.ok.kind hk hn hm go
  · rcases hk with hk | hk
    · exact wpAny_loadName_cell I.ok.kind hk hc hcell go
    · rcases hx with k | k
      · have : X.env.scope.names.lookup x = some .free := hk
        rw [k] at this; cases this
      · have : X.env.scope.names.lookup x = some .free := hk
        rw [k] at this; cases this
def ipI (f : Int → Int → Int) : TIp := fun x y H Q => ∃ i j, x = .int i ∧ y = .int j ∧ Q (.int (f i j)) H
theorem ip_add : PIp X .Add (ipI fun i j => i + j) := by
  intro pins s σ H x y v u Q I r1 r2 h
  obtain ⟨i, j, e1, e2, q⟩ := h
  subst e1; subst e2
  obtain ⟨t, rfl⟩ := r1
  obtain ⟨t', rfl⟩ := r2
  exact iadd_int ⟨.int _, H, I.tok _, ⟨_, rfl⟩, q⟩
end
section
variable {X : Cx} {pos : Pos}
def tWhile (c : TT) (tb : TS) : TS := fun D σ H => ∃ W : Nat → St → Hp → Prop, (∃ m, W m σ H) ∧ ∀ m σ H, W m σ H →
  c σ H fun b H1 => if b = true then ∃ N : St → Hp → Prop, (∀ σ' H', N σ' H' → ∃ m', m' < m ∧ W m' σ' H') ∧ tb { D with nx := N, ct := N, bk := D.nx } σ H1 else D.nx σ H1
theorem ps_while {c : Expr} {body : List Stmt} {tc : TT} {tb : TS} (hp : PassesOwn (model X.prog X.w) X.A X.env X.xe) (hc : PT X c tc) (hb : PSs X body tb) : PS X (.While c body [] pos) (tWhile tc tb) := by
  intro pins s σ H D I h
  obtain ⟨W, ⟨m0, w0⟩, turn⟩ := h
  refine wpAny_While (codeAny_whileLoop (fun n s' => ∃ σ' H', Inv X pins σ' H' s' ∧ W n σ' H') ?_ m0 ⟨σ, H, I, w0⟩)
  rintro n s1 ⟨σ1, H1, I1, w1⟩
  refine wpAny_passesOwn hp (thn (hc pins s1 σ1 H1 _ I1 (turn n σ1 H1 w1)) fun b s2 ⟨H2, I2, q2⟩ => ?_)
  cases b with
  | true =>
    obtain ⟨N, hN, q2⟩ := q2
    rw [if_pos rfl]
    refine wpAny_passesOwn hp (thn (hb pins s2 σ1 H2 _ I2 q2) fun f s3 q3 => ?_)
    cases f with
    | next =>
      obtain ⟨σ3, H3, I3, n3⟩ := q3
      obtain ⟨m', hm, w3⟩ := hN σ3 H3 n3
      exact ⟨m', hm, σ3, H3, I3, w3⟩
    | cont =>
      obtain ⟨σ3, H3, I3, n3⟩ := q3
      obtain ⟨m', hm, w3⟩ := hN σ3 H3 n3
      exact ⟨m', hm, σ3, H3, I3, w3⟩
    | brk => exact q3
    | ret v => exact q3
  | false =>
    rw [if_neg Bool.false_ne_true]
    exact wpAny_execs_nil ⟨σ1, H2, I2, q2⟩
end
structure It where
  go : Nat → Hp → Prop
  yld : Nat → Hp → V → Hp → Prop
  stop : Nat → Hp → Prop
def FpOk (X : Cx) (pins : List (Addr × Obj)) (H : Hp) (b : Addr) : Prop :=
  H b = none ∧ b ≠ X.env.locals ∧ b ∉ X.fs ∧ (b ∈ X.ex ∨ X.s_0.heap.objs.size ≤ b) ∧ (∀ x c, X.env.cells.lookup x = some c → c ≠ b) ∧ ∀ p ∈ X.pn ++ pins, p.1 ≠ b
theorem Inv.fpOk {X : Cx} {pins : List (Addr × Obj)} {σ : St} {H H' : Hp} {s : Shared} {b : Addr} (I : Inv X pins σ H s) (hb : s.heap.objs.size ≤ b) (hn : H' b = none) : FpOk X pins H' b := by
  refine ⟨hn, Nat.ne_of_gt (Nat.lt_of_lt_of_le I.lt hb), I.nofs hb, .inr (Nat.le_trans I.sz hb), fun x c e z => ?_, fun p hp z => ?_⟩
  · obtain ⟨v, q⟩ := I.cell x c e
    exact absurd (Nat.lt_of_lt_of_le q.lt (by rw [z]; exact hb)) (Nat.lt_irrefl _)
  · exact absurd (Nat.lt_of_lt_of_le (Heap.lt_size (I.pin p hp).1) (by rw [z]; exact hb)) (Nat.lt_irrefl _)
structure Turn (P : Program) (w : World) (K : PySem.W.Frag) (tg : Expr) (J : It) (fp : List Addr) (it : Addr) (tn : Nat → Heap → Prop) : Prop where
  mem : it ∈ fp
  obj : ∀ i h, tn i h → ∀ b ∈ fp, ∃ o, h.get? b = some o ∧ ∀ v, o.data ≠ .cell v
  keep : ∀ i h h', tn i h → (∀ b ∈ fp, ∀ o, h.get? b = some o → h'.get? b = some o) → tn i h'
  item : ∀ (X : Cx), X.prog = P → X.w = w → X.K = K → X.calm = true → ∀ (i : Nat) (pins : List (Addr × Obj)) (s : Shared) (σ : St) (H : Hp) (E : Value → Shared → Prop), Inv X pins σ H s → (∀ b ∈ fp, FpOk X pins H b) → tn i s.heap → J.go i H →
    wpAny (model P w) X.A (pyNext (.ref it)) (fun r s1 => ∃ u, r = some u ∧
      wpAny (model P w) X.A (letOwnedTupleGo tg (.ref it) u) (fun _ s2 => ∃ x H', Inv X pins σ H' s2 ∧ RelV x u ∧ J.yld i H x H' ∧ tn (i + 1) s2.heap ∧ ∀ b ∈ fp, H' b = none) E s1) E s
  done : ∀ (X : Cx), X.prog = P → X.w = w → X.K = K → X.calm = true → ∀ (i : Nat) (pins : List (Addr × Obj)) (s : Shared) (σ : St) (H : Hp) (E : Value → Shared → Prop), Inv X pins σ H s → (∀ b ∈ fp, FpOk X pins H b) → tn i s.heap → J.stop i H →
    wpAny (model P w) X.A (pyNext (.ref it)) (fun r s1 => r = none ∧ Inv X pins σ H s1) E s
  self : ∀ (A : Around) (i : Nat) (s : Shared) (Q : Value → Shared → Prop) (E : Value → Shared → Prop), tn i s.heap → Q (.ref it) s → wpAny (model P w) A (pyIter (.ref it)) Q E s
abbrev TI := St → Hp → (It → Hp → Prop) → Prop
def PIE (X : Cx) (pins : List (Addr × Obj)) (σ : St) (tg : Expr) (R : It → Hp → Prop) (itv : Value) (s2 : Shared) : Prop :=
  ∃ (it : Addr) (fp : List Addr) (tn : Nat → Heap → Prop) (J : It) (H' : Hp), itv = .ref it ∧ Inv X pins σ H' s2 ∧ Turn X.prog X.w X.K tg J fp it tn ∧ tn 0 s2.heap ∧ (∀ b ∈ fp, FpOk X pins H' b) ∧ R J H'
def PI (X : Cx) (tg iter : Expr) (wi : TI) : Prop :=
  ∀ (pins : List (Addr × Obj)) (s : Shared) (σ : St) (H : Hp) (R : It → Hp → Prop), Inv X pins σ H s → wi σ H R →
    wpAny (model X.prog X.w) X.A (eval iter X.env) (fun v s1 => wpAny (model X.prog X.w) X.A (pyIter v) (PIE X pins σ tg R) X.xe s1) X.xe s
theorem go_of {M : Model} {A : Around} {E : Value → Shared → Prop} {s : Shared} {tg : Expr} {it : Addr} {u : Value} {o : Obj} {n : String} {vs : Array Value} {Q : Unit → Shared → Prop} (ho : s.heap.get? it = some o) (hc : o.cls = .type n) (hd : o.data = .fields vs)
    (hn : ["enumerate", "zip", "dict_itemiterator", "dict_reverseitemiterator", "odict_iterator", "itertools.zip_longest", "itertools.pairwise"].contains n = false) (hQ : Q () s) : wpAny M A (letOwnedTupleGo tg (.ref it) u) Q E s := by
  unfold letOwnedTupleGo
  cases tg <;> first
    | exact wpAny_pure hQ
    | (cases u <;> first
        | exact wpAny_pure hQ
        | (refine wpAny_bind (wpAny_load ho ?_)
           rw [hc, hd]
           show wpAny M A (if (["enumerate", "zip", "dict_itemiterator", "dict_reverseitemiterator", "odict_iterator", "itertools.zip_longest", "itertools.pairwise"].contains n && vs[0]? == some (rawInt _)) = true then _ else _) Q E s
           rw [if_neg (by intro h; rw [hn, Bool.false_and] at h; cases h)]
           exact wpAny_pure hQ))
def Itl (K : PySem.W.Frag) (a : Addr) : It :=
  ⟨fun i H => ∃ xs x, SqL K H a xs ∧ xs[i]? = some x, fun i H x H' => H' = H ∧ ∀ xs, SqL K H a xs → xs[i]? = some x, fun i H => ∃ xs, SqL K H a xs ∧ xs.length ≤ i⟩
def Itt (K : PySem.W.Frag) (a : Addr) : It :=
  ⟨fun i H => ∃ xs x, SqT K H a xs ∧ xs[i]? = some x, fun i H x H' => H' = H ∧ ∀ xs, SqT K H a xs → xs[i]? = some x, fun i H => ∃ xs, SqT K H a xs ∧ xs.length ≤ i⟩
def Itr (lo : Int) (n : Nat) : It := ⟨fun i _ => i < n, fun i H x H' => H' = H ∧ x = .int (lo + i), fun i _ => n ≤ i⟩
theorem turn_list {P : Program} {w : World} {K : PySem.W.Frag} {tg : Expr} (a it : Addr) : Turn P w K tg (Itl K a) [it] it (fun i h => h.IsListIter it a i) where
  mem := by simp
  obj := fun i h st b hb => by
    have e : b = it := by simpa using hb
    subst e
    obtain ⟨o, e, c, d⟩ := st
    exact ⟨o, e, fun v z => by rw [d] at z; cases z⟩
  keep := fun i h h' st k => st.at fun o e => k it (by simp) o e
  item := by
    intro X hP hw hK hc i pins s σ H E I hf st hg
    subst hP hw hK
    obtain ⟨xs, x, hq, hx⟩ := hg
    obtain ⟨its, rv, p, hz⟩ := I.list hq
    obtain ⟨u, hu, ru⟩ := rv.get hx
    obtain ⟨f0, f1, f2, f3, f4, f5⟩ := hf it (by simp)
    refine wpAny_pyNext_list_item st p.isList (x := u) (by simpa using hu) fun h' st' sb => ?_
    have I1 : Inv X pins σ H { s with heap := h' } := I.turned (t' := s.toks) (fun b o hb e => (sb.2 b hb).trans e) f0 f1 f3 f4 f5
    obtain ⟨o, e, c, d⟩ := id st'
    exact ⟨u, rfl, go_of (s := { s with heap := h' }) e c d (by decide) ⟨x, H, I1, ru, ⟨rfl, fun ys hy => by rw [I.list_inj hy hq]; exact hx⟩, st', fun b hb => (hf b hb).1⟩⟩
  done := by
    intro X hP hw hK hc i pins s σ H E I hf st hg
    subst hP hw hK
    obtain ⟨xs, hq, hx⟩ := hg
    obtain ⟨its, rv, p, hz⟩ := I.list hq
    obtain ⟨f0, f1, f2, f3, f4, f5⟩ := hf it (by simp)
    have hl := rv.length
    exact wpAny_pyNext_list_end (I.ok.hd hc) st p.isList (by simp; omega) fun h' eb => ⟨rfl, I.turned (t' := s.toks) (fun b o hb e => eb b o hb e) f0 f1 f3 f4 f5⟩
  self := fun _ _ _ _ _ st h => wpAny_pyIter_listiter st h
theorem turn_tuple {P : Program} {w : World} {K : PySem.W.Frag} {tg : Expr} (a it : Addr) : Turn P w K tg (Itt K a) [it] it (fun i h => h.IsTupleIter it a i) where
  mem := by simp
  obj := fun i h st b hb => by
    have e : b = it := by simpa using hb
    subst e
    obtain ⟨o, e, c, d⟩ := st
    exact ⟨o, e, fun v z => by rw [d] at z; cases z⟩
  keep := fun i h h' st k => st.at fun o e => k it (by simp) o e
  item := by
    intro X hP hw hK hc i pins s σ H E I hf st hg
    subst hP hw hK
    obtain ⟨xs, x, hq, hx⟩ := hg
    obtain ⟨its, rv, p, hz⟩ := I.tuple hq
    obtain ⟨u, hu, ru⟩ := rv.get hx
    obtain ⟨f0, f1, f2, f3, f4, f5⟩ := hf it (by simp)
    refine wpAny_pyNext_tuple_item st (show s.heap.IsTuple a its.toArray from p) (x := u) (by simpa using hu) fun h' st' sb => ?_
    have I1 : Inv X pins σ H { s with heap := h' } := I.turned (t' := s.toks) (fun b o hb e => (sb.2 b hb).trans e) f0 f1 f3 f4 f5
    obtain ⟨o, e, c, d⟩ := id st'
    exact ⟨u, rfl, go_of (s := { s with heap := h' }) e c d (by decide) ⟨x, H, I1, ru, ⟨rfl, fun ys hy => by rw [I.tuple_inj hy hq]; exact hx⟩, st', fun b hb => (hf b hb).1⟩⟩
  done := by
    intro X hP hw hK hc i pins s σ H E I hf st hg
    subst hP hw hK
    obtain ⟨xs, hq, hx⟩ := hg
    obtain ⟨its, rv, p, hz⟩ := I.tuple hq
    obtain ⟨f0, f1, f2, f3, f4, f5⟩ := hf it (by simp)
    have hl := rv.length
    exact wpAny_pyNext_tuple_end (I.ok.hd hc) st (show s.heap.IsTuple a its.toArray from p) (by simp; omega) fun h' eb => ⟨rfl, I.turned (t' := s.toks) (fun b o hb e => eb b o hb e) f0 f1 f3 f4 f5⟩
  self := fun _ _ _ _ _ st h => wpAny_pyIter_tupleiter st h
theorem turn_range {P : Program} {w : World} {K : PySem.W.Frag} {tg : Expr} (it : Addr) (lo : Int) (n : Nat) : Turn P w K tg (Itr lo n) [it] it (fun i h => IsRangeIter h it (lo + (i : Nat) * 1) ((n : Int) - (i : Nat)) 1) where
  mem := by simp
  obj := fun i h st b hb => by
    have e : b = it := by simpa using hb
    subst e
    exact ⟨_, st, fun v z => by
      have z' : Data.fields _ = Data.cell v := z
      cases z'⟩
  keep := fun i h h' st k => k it (by simp) _ st
  item := by
    intro X hP hw hK hc i pins s σ H E I hf st hg
    subst hP hw hK
    obtain ⟨f0, f1, f2, f3, f4, f5⟩ := hf it (by simp)
    have W := Walks.range (prog := X.prog) (w := X.w) (I.ok.hd hc) it lo 1 n
    refine W.item i s _ _ hg st fun v h' tk hv st' kk => ?_
    obtain ⟨t, rfl⟩ := hv
    have I1 : Inv X pins σ H { s with heap := h', toks := tk } := I.turned (fun b o hb e => kk b o (by simpa using hb) e) f0 f1 f3 f4 f5
    refine ⟨_, rfl, go_of (s := { s with heap := h', toks := tk }) (n := "range_iterator") st' rfl rfl (by decide) ⟨.int (lo + i), H, I1, ⟨t, ?_⟩, ⟨rfl, rfl⟩, st', fun b hb => (hf b hb).1⟩⟩
    rw [Int.mul_one]
  done := by
    intro X hP hw hK hc i pins s σ H E I hf st hg
    subst hP hw hK
    obtain ⟨f0, f1, f2, f3, f4, f5⟩ := hf it (by simp)
    exact wpAny_pyNext_range_end (I.ok.hd hc) st (by have : n ≤ i := hg; omega) fun h' eb => ⟨rfl, I.turned (t' := s.toks) (fun b o hb e => eb b o hb e) f0 f1 f3 f4 f5⟩
  self := fun _ _ _ _ _ st h => wpAny_pyIter_rangeiter st h
end L2
namespace L2
open PySem PySem.Spec PyProof.Rows
section
variable {X : Cx} {tg : Expr}
def iList (K : PySem.W.Frag) (tl : TE) : TI := fun σ H R => tl σ H fun x H1 => ∃ a, x = .ref a ∧ (∃ xs, SqL K H1 a xs) ∧ R (Itl K a) H1
def iTup (K : PySem.W.Frag) (tl : TE) : TI := fun σ H R => tl σ H fun x H1 => ∃ a, x = .ref a ∧ (∃ xs, SqT K H1 a xs) ∧ R (Itt K a) H1
theorem pi_list {l : Expr} {tl : TE} (hl : PE X l tl) : PI X tg l (iList X.K tl) := by
  intro pins s σ H R I h
  refine thn (hl pins s σ H _ I h) fun v s1 ⟨x, H1, I1, r1, q1⟩ => ?_
  obtain ⟨a, e, ⟨xs, hq⟩, q⟩ := q1
  subst e
  cases r1
  obtain ⟨its, rv, p, hz⟩ := I1.list hq
  refine wpAny_pyIter_list p.isList ?_
  refine ⟨s1.heap.objs.size, [s1.heap.objs.size], _, _, H1, rfl, I1.kept (t' := s1.toks) fun b o e => Heap.get?_push_of_some _ e, turn_list a _, ⟨_, Heap.get?_push_size _ rfl, rfl, rfl⟩, fun b hb => ?_, q⟩
  have e : b = s1.heap.objs.size := by simpa using hb
  subst e
  exact I1.fpOk (Nat.le_refl _) (I1.hok.fresh (Nat.le_refl _))
theorem pi_tup {l : Expr} {tl : TE} (hl : PE X l tl) : PI X tg l (iTup X.K tl) := by
  intro pins s σ H R I h
  refine thn (hl pins s σ H _ I h) fun v s1 ⟨x, H1, I1, r1, q1⟩ => ?_
  obtain ⟨a, e, ⟨xs, hq⟩, q⟩ := q1
  subst e
  cases r1
  obtain ⟨its, rv, p, hz⟩ := I1.tuple hq
  refine wpAny_pyIter_tuple (show s1.heap.IsTuple a its.toArray from p) ?_
  refine ⟨s1.heap.objs.size, [s1.heap.objs.size], _, _, H1, rfl, I1.kept (t' := s1.toks) fun b o e => Heap.get?_push_of_some _ e, turn_tuple a _, ⟨_, Heap.get?_push_size _ rfl, rfl, rfl⟩, fun b hb => ?_, q⟩
  have e : b = s1.heap.objs.size := by simpa using hb
  subst e
  exact I1.fpOk (Nat.le_refl _) (I1.hok.fresh (Nat.le_refl _))
theorem range_it {pins : List (Addr × Obj)} {σ : St} {H : Hp} {s : Shared} {R : It → Hp → Prop} {E : Value → Shared → Prop} {lo hi : Int} {t u v : Tok} {tk : Nat} (I : Inv X pins σ H s) (h1 : -(2 ^ 62) ≤ lo) (h2 : lo < 2 ^ 62) (h3 : -(2 ^ 62) ≤ hi) (h4 : hi < 2 ^ 62)
    (q : R (Itr lo (hi - lo).toNat) H) : wpAny (model X.prog X.w) X.A (pyIter (.ref s.heap.objs.size)) (PIE X pins σ tg R) E { s with heap := s.heap.push { cls := .type "range", data := .fields #[.int lo t, .int hi u, .int 1 v] }, toks := tk } := by
  refine wpAny_pyIter_range (IsRange.new ..) (small_one h1 h2 h3 h4) ?_
  have I1 : Inv X pins σ H { s with heap := s.heap.push { cls := .type "range", data := .fields #[.int lo t, .int hi u, .int 1 v] }, toks := tk } := I.kept fun b o e => Heap.get?_push_of_some _ e
  refine ⟨(s.heap.push { cls := .type "range", data := .fields #[.int lo t, .int hi u, .int 1 v] }).objs.size, [(s.heap.push { cls := .type "range", data := .fields #[.int lo t, .int hi u, .int 1 v] }).objs.size], _, _, H, rfl,
    I1.kept (t' := tk) fun b o e => Heap.get?_push_of_some _ e, turn_range _ lo (hi - lo).toNat, ?_, fun b hb => ?_, q⟩
  · have e1 : lo + ((0 : Nat) : Int) * 1 = lo := by simp
    have e2 : (((hi - lo).toNat : Nat) : Int) - ((0 : Nat) : Int) = Builtin.Range.rangeSize lo hi 1 := by rw [rangeSize_one]; split <;> omega
    show IsRangeIter _ _ (lo + ((0 : Nat) : Int) * 1) ((((hi - lo).toNat : Nat) : Int) - ((0 : Nat) : Int)) 1
    rw [e1, e2]
    exact Heap.get?_push_size _ rfl
  · have e : b = (s.heap.push { cls := .type "range", data := .fields #[.int lo t, .int hi u, .int 1 v] }).objs.size := by simpa using hb
    subst e
    exact I1.fpOk (Nat.le_refl _) (I1.hok.fresh (Nat.le_refl _))
def iRng1 (ta : TA) : TI := fun σ H R => ta σ H fun vs H1 => ∃ j : Int, vs = [.int j] ∧ -(2 ^ 62) ≤ j ∧ j < 2 ^ 62 ∧ R (Itr 0 j.toNat) H1
theorem pi_range1 {a : Expr} {ta : TA} {p pos : Pos} (hg : Gl X "range") (hm : X.mg "range" = none) (ha : PA X [a] ta) (hs : starEach [a] X.env = [(false, eval a X.env)] := by rfl) : PI X tg (.Call (.Name "range" p) [a] [] pos) (iRng1 ta) := by
  intro pins s σ H R I h
  refine Call_ (ld_blt I hg hm boot_range (PyProof.Rows.callWith_type1 (thn (ha pos pins s σ H _ I h) fun us s1 ⟨vs, H1, I1, r1, q1⟩ => ?_) hs rfl))
  obtain ⟨j, e, q1, q2, q⟩ := q1
  subst e
  cases r1 with
  | cons r rr =>
    cases rr
    obtain ⟨t, rfl⟩ := r
    exact call_range_1 (range_it I1 (by omega) (by omega) q1 q2 (by simpa using q))
def tFor (wi : TI) (g : TG) (tb : TS) : TS := fun D σ H => wi σ H fun J H1 => ∃ W : Nat → Nat → St → Hp → Prop, (∃ m, W 0 m σ H1) ∧ ∀ i m σ H, W i m σ H →
  (J.stop i H ∧ D.nx σ H) ∨ (J.go i H ∧ ∃ N : St → Hp → Prop, (∀ σ' H', N σ' H' → ∃ m', m' < m ∧ W (i + 1) m' σ' H') ∧ ∀ x H', J.yld i H x H' → g x σ H' fun σ2 H2 => tb { D with nx := N, ct := N, bk := D.nx } σ2 H2)
def pinsAt (fp : List Addr) (h : Heap) : List (Addr × Obj) := fp.filterMap fun b => (h.get? b).map fun o => (b, o)
theorem mem_pinsAt {fp : List Addr} {h : Heap} {b : Addr} {o : Obj} (hb : b ∈ fp) (e : h.get? b = some o) : (b, o) ∈ pinsAt fp h := List.mem_filterMap.mpr ⟨b, hb, by rw [e]; rfl⟩
theorem of_pinsAt {fp : List Addr} {h : Heap} {p : Addr × Obj} (hp : p ∈ pinsAt fp h) : p.1 ∈ fp ∧ h.get? p.1 = some p.2 := by
  obtain ⟨b, hb, e⟩ := List.mem_filterMap.mp hp
  cases q : h.get? b with
  | none => rw [q] at e; cases e
  | some o =>
    rw [q] at e
    have e' : (b, o) = p := Option.some.inj e
    subst e'
    exact ⟨hb, q⟩
theorem Inv.pinned {pins : List (Addr × Obj)} {σ : St} {H : Hp} {s : Shared} {fp : List Addr} (I : Inv X pins σ H s) (hf : ∀ b ∈ fp, FpOk X pins H b) (ho : ∀ b ∈ fp, ∃ o, s.heap.get? b = some o ∧ ∀ v, o.data ≠ .cell v) : Inv X (pins ++ pinsAt fp s.heap) σ H s :=
  I.pins_of fun p hp => (List.mem_append.mp hp).elim (fun z => I.pin p (List.mem_append_right _ z)) fun z => by
    obtain ⟨hb, e⟩ := of_pinsAt z
    obtain ⟨f0, f1, f2, _⟩ := hf p.1 hb
    obtain ⟨o, e', d⟩ := ho p.1 hb
    rw [e] at e'; cases e'
    exact ⟨e, f0, f1, f2, d⟩
theorem Inv.unpinned {pins pl : List (Addr × Obj)} {σ : St} {H : Hp} {s : Shared} (I : Inv X (pins ++ pl) σ H s) : Inv X pins σ H s := I.pins_of fun p hp => I.pin p (List.mem_append_right _ (List.mem_append_left _ hp))
theorem ps_for {iter : Expr} {body : List Stmt} {wi : TI} {g : TG} {tb : TS} {pos : Pos} (hp : PassesOwn (model X.prog X.w) X.A X.env X.xe) (hc : X.calm = true) (hi : PI X tg iter wi) (hg : PG X tg g) (hb : PSs X body tb)
    (hs : ∀ x, foldedSetIterable iter X.env x = pure x := by intro _; rfl) : PS X (.For tg iter body [] pos) (tFor wi g tb) := by
  intro pins s σ H D I h
  refine wpAny_For (thn (hi pins s σ H _ I h) fun v s1 h1 => thn h1 fun itv s2 h2 => ?_) hs
  obtain ⟨it, fp, tn, J, H2, e, I2, T, st2, f2, W, ⟨m0, w0⟩, turn⟩ := h2
  subst e
  have stat : ∀ {H' : Hp}, (∀ b ∈ fp, H' b = none) → ∀ b ∈ fp, FpOk X pins H' b := fun hn b hb => ⟨hn b hb, (f2 b hb).2⟩
  refine codeAny_forLoop_any (fun n s' => ∃ i σ' H', Inv X pins σ' H' s' ∧ tn i s'.heap ∧ (∀ b ∈ fp, H' b = none) ∧ W i n σ' H') ?_ m0 ⟨0, σ, H2, I2, st2, fun b hb => (f2 b hb).1, w0⟩
  rintro n s3 ⟨i, σ3, H3, I3, st3, fr3, w3⟩
  rcases turn i n σ3 H3 w3 with ⟨stop, qn⟩ | ⟨go, N, hN, step⟩
  · refine wpAny_passesOwn hp (thn (T.done X rfl rfl rfl hc i pins s3 σ3 H3 X.xe I3 (stat fr3) st3 stop) fun r s4 ⟨hr, I4⟩ => ?_)
    subst hr
    exact wpAny_execs_nil ⟨σ3, H3, I4, qn⟩
  · refine wpAny_passesOwn hp (thn (T.item X rfl rfl rfl hc i pins s3 σ3 H3 X.xe I3 (stat fr3) st3 go) fun r s4 ⟨u, hr, h4⟩ => ?_)
    subst hr
    refine wpAny_passesOwn hp (thn h4 fun _ s5 ⟨x, H5, I5, r5, y5, st5, fr5⟩ => ?_)
    have I5' := I5.pinned (stat fr5) (T.obj _ _ st5)
    refine wpAny_passesOwn hp (thn (hg _ s5 σ3 H5 x u _ I5' r5 (step x H5 y5)) fun _ s6 ⟨σ6, H6, I6, q6⟩ => ?_)
    refine wpAny_passesOwn hp (thn (hb _ s6 σ6 H6 _ I6 q6) fun f s7 q7 => ?_)
    have again : ∀ {σ7 : St} {H7 : Hp}, Inv X (pins ++ pinsAt fp s5.heap) σ7 H7 s7 → N σ7 H7 → ∃ m, m < n ∧ ∃ i σ' H', Inv X pins σ' H' s7 ∧ tn i s7.heap ∧ (∀ b ∈ fp, H' b = none) ∧ W i m σ' H' := fun {σ7 H7} I7 n7 => by
      obtain ⟨m', hm, w7⟩ := hN σ7 H7 n7
      refine ⟨m', hm, i + 1, σ7, H7, I7.unpinned, T.keep _ _ _ st5 fun b hb o e => (I7.pin (b, o) (List.mem_append_right _ (List.mem_append_right _ (mem_pinsAt hb e)))).1, fun b hb => ?_, w7⟩
      obtain ⟨o, e, d⟩ := T.obj _ _ st5 b hb
      exact (I7.pin (b, o) (List.mem_append_right _ (List.mem_append_right _ (mem_pinsAt hb e)))).2.1
    cases f with
    | next => obtain ⟨σ7, H7, I7, n7⟩ := q7; exact again I7 n7
    | cont => obtain ⟨σ7, H7, I7, n7⟩ := q7; exact again I7 n7
    | brk => obtain ⟨σ7, H7, I7, q7⟩ := q7; exact ⟨σ7, H7, I7.unpinned, q7⟩
    | ret v => obtain ⟨x7, σ7, H7, I7, r7, q7⟩ := q7; exact ⟨x7, σ7, H7, I7.unpinned, r7, q7⟩
end
theorem for_list {K : PySem.W.Frag} {a : Addr} {xs : List V} {g : TG} {tb : TS} {D : Ends} {σ : St} {H : Hp} (Pv : Nat → St → Hp → Prop) (h0 : Pv 0 σ H) (hl : ∀ i σ H, i ≤ xs.length → Pv i σ H → SqL K H a xs)
    (hs : ∀ i x σ H, xs[i]? = some x → Pv i σ H → g x σ H fun σ2 H2 => tb { D with nx := Pv (i + 1), ct := Pv (i + 1), bk := D.nx } σ2 H2) (hd : ∀ σ H, Pv xs.length σ H → D.nx σ H) :
    ∃ W : Nat → Nat → St → Hp → Prop, (∃ m, W 0 m σ H) ∧ ∀ i m σ H, W i m σ H →
      ((Itl K a).stop i H ∧ D.nx σ H) ∨ ((Itl K a).go i H ∧ ∃ N : St → Hp → Prop, (∀ σ' H', N σ' H' → ∃ m', m' < m ∧ W (i + 1) m' σ' H') ∧ ∀ x H', (Itl K a).yld i H x H' → g x σ H' fun σ2 H2 => tb { D with nx := N, ct := N, bk := D.nx } σ2 H2) := by
  refine ⟨fun i m σ H => m = xs.length - i ∧ i ≤ xs.length ∧ Pv i σ H, ⟨xs.length, by simp, Nat.zero_le _, h0⟩, ?_⟩
  rintro i m σ H ⟨rfl, hi, p⟩
  have q := hl i σ H hi p
  by_cases hlt : i < xs.length
  · refine .inr ⟨⟨xs, xs[i], q, by simp [hlt]⟩, Pv (i + 1), fun σ' H' p' => ⟨xs.length - (i + 1), by omega, rfl, hlt, p'⟩, fun x H' y => ?_⟩
    obtain ⟨e, y⟩ := y
    subst e
    exact hs i x σ _ (y xs q) p
  · have e : i = xs.length := by omega
    subst e
    exact .inl ⟨⟨xs, q, Nat.le_refl _⟩, hd σ H p⟩
theorem for_tup {K : PySem.W.Frag} {a : Addr} {xs : List V} {g : TG} {tb : TS} {D : Ends} {σ : St} {H : Hp} (Pv : Nat → St → Hp → Prop) (h0 : Pv 0 σ H) (hl : ∀ i σ H, i ≤ xs.length → Pv i σ H → SqT K H a xs)
    (hs : ∀ i x σ H, xs[i]? = some x → Pv i σ H → g x σ H fun σ2 H2 => tb { D with nx := Pv (i + 1), ct := Pv (i + 1), bk := D.nx } σ2 H2) (hd : ∀ σ H, Pv xs.length σ H → D.nx σ H) :
    ∃ W : Nat → Nat → St → Hp → Prop, (∃ m, W 0 m σ H) ∧ ∀ i m σ H, W i m σ H →
      ((Itt K a).stop i H ∧ D.nx σ H) ∨ ((Itt K a).go i H ∧ ∃ N : St → Hp → Prop, (∀ σ' H', N σ' H' → ∃ m', m' < m ∧ W (i + 1) m' σ' H') ∧ ∀ x H', (Itt K a).yld i H x H' → g x σ H' fun σ2 H2 => tb { D with nx := N, ct := N, bk := D.nx } σ2 H2) := by
  refine ⟨fun i m σ H => m = xs.length - i ∧ i ≤ xs.length ∧ Pv i σ H, ⟨xs.length, by simp, Nat.zero_le _, h0⟩, ?_⟩
  rintro i m σ H ⟨rfl, hi, p⟩
  have q := hl i σ H hi p
  by_cases hlt : i < xs.length
  · refine .inr ⟨⟨xs, xs[i], q, by simp [hlt]⟩, Pv (i + 1), fun σ' H' p' => ⟨xs.length - (i + 1), by omega, rfl, hlt, p'⟩, fun x H' y => ?_⟩
    obtain ⟨e, y⟩ := y
    subst e
    exact hs i x σ _ (y xs q) p
  · have e : i = xs.length := by omega
    subst e
    exact .inl ⟨⟨xs, q, Nat.le_refl _⟩, hd σ H p⟩
end L2
namespace L2
open PySem PySem.Spec PyProof.Rows
abbrev R2 := V → V → Hp → VK → Prop
def OpR (X : Cx) (f : Value → Value → Sem Value) (r : R2) : Prop :=
  ∀ (pins : List (Addr × Obj)) (s : Shared) (σ : St) (H : Hp) (x y : V) (v u : Value) (Q : VK), Inv X pins σ H s → RelV x v → RelV y u → r x y H Q →
    wpAny (model X.prog X.w) X.A (f v u) (EP X pins σ Q) X.xe s
def UnR (X : Cx) (f : Value → Sem Value) (r : V → Hp → VK → Prop) : Prop :=
  ∀ (pins : List (Addr × Obj)) (s : Shared) (σ : St) (H : Hp) (x : V) (v : Value) (Q : VK), Inv X pins σ H s → RelV x v → r x H Q →
    wpAny (model X.prog X.w) X.A (f v) (EP X pins σ Q) X.xe s
def CallR (X : Cx) (f : Value) (r : List V → Hp → VK → Prop) : Prop :=
  ∀ (pins : List (Addr × Obj)) (s : Shared) (σ : St) (H : Hp) (xs : List V) (us : List Value) (Q : VK), Inv X pins σ H s → Vals xs us → r xs H Q →
    wpAny (model X.prog X.w) X.A (call f us) (EP X pins σ Q) X.xe s
def TruR (X : Cx) (r : V → Hp → (Bool → Hp → Prop) → Prop) : Prop :=
  ∀ (pins : List (Addr × Obj)) (s : Shared) (σ : St) (H : Hp) (x : V) (v : Value) (Q : Bool → Hp → Prop), Inv X pins σ H s → RelV x v → r x H Q →
    wpAny (model X.prog X.w) X.A (truthy v) (TP X pins σ Q) X.xe s
def tOp (r : R2) (ta tb : TE) : TE := fun σ H Q => ta σ H fun x H1 => tb σ H1 fun y H2 => r x y H2 Q
def tUn (r : V → Hp → VK → Prop) (ta : TE) : TE := fun σ H Q => ta σ H fun x H1 => r x H1 Q
def rI (C : Int → Int → Prop) (g : Int → Int → V) : R2 := fun x y H Q => ∃ i j, x = .int i ∧ y = .int j ∧ C i j ∧ Q (g i j) H
def rI0 (g : Int → Int → V) : R2 := fun x y H Q => ∃ i j, x = .int i ∧ y = .int j ∧ Q (g i j) H
def rU (g : Int → V) : V → Hp → VK → Prop := fun x H Q => ∃ i, x = .int i ∧ Q (g i) H
section
variable {X : Cx} {a b c : Expr} {ta tb tc : TE} {pos : Pos}
theorem binT (ha : PE X a ta) (hb : PE X b tb) {pins : List (Addr × Obj)} {s : Shared} {σ : St} {H : Hp} {R : V → V → Hp → Prop} (I : Inv X pins σ H s)
    (h : ta σ H fun x H1 => tb σ H1 fun y H2 => R x y H2) {Q : Value → Shared → Prop} {f : Value → Value → Sem Value}
    (hf : ∀ v u s2 x y H2, Inv X pins σ H2 s2 → RelV x v → RelV y u → R x y H2 → wpAny (model X.prog X.w) X.A (f v u) Q X.xe s2) :
    wpAny (model X.prog X.w) X.A (eval a X.env) (fun v s₁ => wpAny (model X.prog X.w) X.A (eval b X.env) (fun u s₂ => wpAny (model X.prog X.w) X.A (f v u) Q X.xe s₂) X.xe s₁) X.xe s := by
  refine thn (ha pins s σ H _ I h) fun v s1 ⟨x, H1, I1, r1, q1⟩ => ?_
  refine thn (hb pins s1 σ H1 _ I1 q1) fun u s2 ⟨y, H2, I2, r2, q2⟩ => ?_
  exact hf v u s2 x y H2 I2 r1 r2 q2
theorem pe_op {op : Operator} {r : R2} (ho : OpR X (binaryOp op) r) (ha : PE X a ta) (hb : PE X b tb) : PE X (.BinOp a op b pos) (tOp r ta tb) := by
  intro pins s σ H Q I h
  exact wpAny_BinOp (binT ha hb I h fun v u s2 x y H2 I2 rx ry q => ho pins s2 σ H2 x y v u Q I2 rx ry q)
theorem pe_un {op : UnaryOp} {r : V → Hp → VK → Prop} (ho : UnR X (unaryOp op) r) (ha : PE X a ta) : PE X (.UnaryOp op a pos) (tUn r ta) := by
  intro pins s σ H Q I h
  exact UnaryOp_ (thn (ha pins s σ H _ I h) fun v s1 ⟨x, H1, I1, r1, q1⟩ => ho pins s1 σ H1 x v Q I1 r1 q1)
theorem opI {f : Value → Value → Sem Value} {C : Int → Int → Prop} {g : Int → Int → Int}
    (rule : ∀ (i j : Int) (t u : Tok) (s : Shared) (Q : Value → Shared → Prop) (E : Value → Shared → Prop), C i j → Q (.int (g i j) s.toks) { s with toks := s.toks + 1 } → wpAny (model X.prog X.w) X.A (f (.int i t) (.int j u)) Q E s) :
    OpR X f (rI C fun i j => .int (g i j)) := by
  intro pins s σ H x y v u Q I rx ry h
  obtain ⟨i, j, rfl, rfl, hc, q⟩ := h
  obtain ⟨t, rfl⟩ := rx
  obtain ⟨t', rfl⟩ := ry
  exact rule i j t t' s _ _ hc ⟨.int (g i j), H, I.tok _, ⟨_, rfl⟩, q⟩
theorem opI0 {f : Value → Value → Sem Value} {g : Int → Int → Int}
    (rule : ∀ (i j : Int) (t u : Tok) (s : Shared) (Q : Value → Shared → Prop) (E : Value → Shared → Prop), Q (.int (g i j) s.toks) { s with toks := s.toks + 1 } → wpAny (model X.prog X.w) X.A (f (.int i t) (.int j u)) Q E s) :
    OpR X f (rI0 fun i j => .int (g i j)) := by
  intro pins s σ H x y v u Q I rx ry h
  obtain ⟨i, j, rfl, rfl, q⟩ := h
  obtain ⟨t, rfl⟩ := rx
  obtain ⟨t', rfl⟩ := ry
  exact rule i j t t' s _ _ ⟨.int (g i j), H, I.tok _, ⟨_, rfl⟩, q⟩
theorem opB0 {f : Value → Value → Sem Value} {g : Int → Int → Bool}
    (rule : ∀ (i j : Int) (t u : Tok) (s : Shared) (Q : Value → Shared → Prop) (E : Value → Shared → Prop), Q (.bool (g i j)) s → wpAny (model X.prog X.w) X.A (f (.int i t) (.int j u)) Q E s) :
    OpR X f (rI0 fun i j => .bl (g i j)) := by
  intro pins s σ H x y v u Q I rx ry h
  obtain ⟨i, j, rfl, rfl, q⟩ := h
  obtain ⟨t, rfl⟩ := rx
  obtain ⟨t', rfl⟩ := ry
  exact rule i j t t' s _ _ ⟨.bl (g i j), H, I, rfl, q⟩
theorem op_add : OpR X (binaryOp .Add) (rI0 fun i j => .int (i + j)) := opI0 fun _ _ _ _ _ _ _ q => add_int q
theorem op_sub : OpR X (binaryOp .Sub) (rI0 fun i j => .int (i - j)) := opI0 fun _ _ _ _ _ _ _ q => sub_int q
theorem op_mod : OpR X (binaryOp .Mod) (rI (fun _ j => 0 < j) fun i j => .int (i % j)) := opI fun i j _ _ _ _ _ hc q => by
  have h1 : (0 : Int) < j := hc
  exact mod_int' (by omega) (by rw [Int.fmod_eq_emod_of_nonneg i (by omega)]; exact q)
theorem unI {f : Value → Sem Value} {g : Int → Int}
    (rule : ∀ (i : Int) (t : Tok) (s : Shared) (Q : Value → Shared → Prop) (E : Value → Shared → Prop), Q (.int (g i) s.toks) { s with toks := s.toks + 1 } → wpAny (model X.prog X.w) X.A (f (.int i t)) Q E s) :
    UnR X f (rU fun i => .int (g i)) := by
  intro pins s σ H x v Q I rx h
  obtain ⟨i, rfl, q⟩ := h
  obtain ⟨t, rfl⟩ := rx
  exact rule i t s _ _ ⟨.int (g i), H, I.tok _, ⟨_, rfl⟩, q⟩
theorem un_neg : UnR X (unaryOp .USub) (rU fun i => .int (-i)) := unI fun _ _ _ _ _ q => neg_int q
end
def scal : V → V → Bool
  | .non, .non => true | .non, .int _ => true | .int _, .non => true | .non, .bl _ => true | .bl _, .non => true | .non, .str _ => true | .str _, .non => true
  | .int _, .int _ => true | .bl _, .bl _ => true | .str _, .str _ => true | .byt _, .byt _ => true
  | .int _, .str _ => true | .str _, .int _ => true | .bl _, .str _ => true | .str _, .bl _ => true
  | _, _ => false
def rEq : R2 := fun x y H Q => scal x y = true ∧ Q (.bl (decide (x = y))) H
def rNe : R2 := fun x y H Q => scal x y = true ∧ Q (.bl (!decide (x = y))) H
theorem dec_int {i j : Int} : decide (V.int i = V.int j) = (i == j) := by
  rw [Bool.eq_iff_iff]
  simp
theorem dec_bl {i j : Bool} : decide (V.bl i = V.bl j) = (i == j) := by
  rw [Bool.eq_iff_iff]
  simp
theorem dec_str {i j : Str} : decide (V.str i = V.str j) = (i == j) := by
  rw [Bool.eq_iff_iff]
  simp
theorem dec_byt {i j : Array UInt8} : decide (V.byt i = V.byt j) = (i.toList == j.toList) := by
  rw [Bool.eq_iff_iff]
  cases i
  cases j
  simp
section
variable {X : Cx} {a b c : Expr} {ta tb tc : TE} {pos : Pos}
theorem fin_bl {pins : List (Addr × Obj)} {σ : St} {H : Hp} {s : Shared} {Q : VK} {k k' : Bool} (I : Inv X pins σ H s) (q : Q (.bl k) H) (e : k = k') : EP X pins σ Q (.bool k') s := by
  subst e
  exact ⟨.bl k, H, I, rfl, q⟩
theorem op_eq : OpR X (compareOp .Eq) rEq := by
  intro pins s σ H x y v u Q I rx ry h
  obtain ⟨hs, q⟩ := h
  cases x with
  | non =>
    cases rx
    cases y with
    | non => cases ry; exact PySem.EqNone.eq_none_none (fin_bl I q (by simp))
    | bl j => cases ry; exact PySem.EqNone.eq_none_bool (fin_bl I q (by simp))
    | int j => obtain ⟨t', rfl⟩ := ry; exact PySem.EqNone.eq_none_int (fin_bl I q (by simp))
    | str j => obtain ⟨t', rfl⟩ := ry; exact PySem.EqNone.eq_none_str (fin_bl I q (by simp))
    | _ => exact absurd (show false = true from hs) Bool.false_ne_true
  | bl i =>
    cases rx
    cases y with
    | non => cases ry; exact PySem.EqNone.eq_bool_none (fin_bl I q (by simp))
    | bl j => cases ry; exact eq_bool (fin_bl I q dec_bl)
    | str j => obtain ⟨t', rfl⟩ := ry; exact PySem.EqMixed.eq_bool_str (fin_bl I q (by simp))
    | _ => exact absurd (show false = true from hs) Bool.false_ne_true
  | int i =>
    obtain ⟨t, rfl⟩ := rx
    cases y with
    | non => cases ry; exact PySem.EqNone.eq_int_none (fin_bl I q (by simp))
    | int j => obtain ⟨t', rfl⟩ := ry; exact eq_int (fin_bl I q dec_int)
    | str j => obtain ⟨t', rfl⟩ := ry; exact PySem.EqMixed.eq_int_str (fin_bl I q (by simp))
    | _ => exact absurd (show false = true from hs) Bool.false_ne_true
  | str i =>
    obtain ⟨t, rfl⟩ := rx
    cases y with
    | non => cases ry; exact PySem.EqNone.eq_str_none (fin_bl I q (by simp))
    | bl j => cases ry; exact PySem.EqMixed.eq_str_bool (fin_bl I q (by simp))
    | int j => obtain ⟨t', rfl⟩ := ry; exact PySem.EqMixed.eq_str_int (fin_bl I q (by simp))
    | str j => obtain ⟨t', rfl⟩ := ry; exact eq_str (fin_bl I q dec_str)
    | _ => exact absurd (show false = true from hs) Bool.false_ne_true
  | byt i =>
    obtain ⟨t, rfl⟩ := rx
    cases y with
    | byt j => obtain ⟨t', rfl⟩ := ry; exact PySem.W.eq_bytes (fin_bl I q dec_byt)
    | _ => exact absurd (show false = true from hs) Bool.false_ne_true
  | _ => cases y <;> exact absurd (show false = true from hs) Bool.false_ne_true
theorem op_ne : OpR X (compareOp .NotEq) rNe := by
  intro pins s σ H x y v u Q I rx ry h
  obtain ⟨hs, q⟩ := h
  cases x with
  | non =>
    cases rx
    cases y with
    | non => cases ry; exact PySem.EqNone.ne_none_none (fin_bl I q (by simp))
    | bl j => cases ry; exact PySem.EqNone.ne_none_bool (fin_bl I q (by simp))
    | int j => obtain ⟨t', rfl⟩ := ry; exact PySem.EqNone.ne_none_int (fin_bl I q (by simp))
    | str j => obtain ⟨t', rfl⟩ := ry; exact PySem.EqNone.ne_none_str (fin_bl I q (by simp))
    | _ => exact absurd (show false = true from hs) Bool.false_ne_true
  | bl i =>
    cases rx
    cases y with
    | non => cases ry; exact PySem.EqNone.ne_bool_none (fin_bl I q (by simp))
    | bl j => cases ry; exact ne_bool (fin_bl I q (congrArg not dec_bl))
    | str j => obtain ⟨t', rfl⟩ := ry; exact PySem.EqMixed.ne_bool_str (fin_bl I q (by simp))
    | _ => exact absurd (show false = true from hs) Bool.false_ne_true
  | int i =>
    obtain ⟨t, rfl⟩ := rx
    cases y with
    | non => cases ry; exact PySem.EqNone.ne_int_none (fin_bl I q (by simp))
    | int j => obtain ⟨t', rfl⟩ := ry; exact ne_int (fin_bl I q (congrArg not dec_int))
    | str j => obtain ⟨t', rfl⟩ := ry; exact PySem.EqMixed.ne_int_str (fin_bl I q (by simp))
    | _ => exact absurd (show false = true from hs) Bool.false_ne_true
  | str i =>
    obtain ⟨t, rfl⟩ := rx
    cases y with
    | non => cases ry; exact PySem.EqNone.ne_str_none (fin_bl I q (by simp))
    | bl j => cases ry; exact PySem.EqMixed.ne_str_bool (fin_bl I q (by simp))
    | int j => obtain ⟨t', rfl⟩ := ry; exact PySem.EqMixed.ne_str_int (fin_bl I q (by simp))
    | str j => obtain ⟨t', rfl⟩ := ry; exact ne_str (fin_bl I q (congrArg not dec_str))
    | _ => exact absurd (show false = true from hs) Bool.false_ne_true
  | byt i =>
    obtain ⟨t, rfl⟩ := rx
    cases y with
    | byt j => obtain ⟨t', rfl⟩ := ry; exact PySem.W.ne_bytes (fin_bl I q (congrArg not dec_byt))
    | _ => exact absurd (show false = true from hs) Bool.false_ne_true
  | _ => cases y <;> exact absurd (show false = true from hs) Bool.false_ne_true
theorem op_lt : OpR X (compareOp .Lt) (rI0 fun i j => .bl (decide (i < j))) := opB0 fun _ _ _ _ _ _ _ q => lt_int q
theorem op_le : OpR X (compareOp .LtE) (rI0 fun i j => .bl (decide (i ≤ j))) := opB0 fun _ _ _ _ _ _ _ q => le_int q
theorem op_gt : OpR X (compareOp .Gt) (rI0 fun i j => .bl (decide (j < i))) := opB0 fun _ _ _ _ _ _ _ q => gt_int q
theorem nomark (b : Expr) {op : CmpOp} (h : op ≠ .In := by decide) (h2 : op ≠ .NotIn := by decide) : behindInMarks op b = false := by
  have e1 : (op == CmpOp.In) = false := by cases op <;> first | rfl | exact absurd rfl h
  have e2 : (op == CmpOp.NotIn) = false := by cases op <;> first | rfl | exact absurd rfl h2
  cases b <;> simp [behindInMarks, e1, e2]
theorem pe_cmpR {op : CmpOp} {r : R2} (ho : OpR X (compareOp op) r) (ha : PE X a ta) (hb : PE X b tb) (hm : behindInMarks op b = false) : PE X (.Compare a [op] [b] pos) (tOp r ta tb) := by
  intro pins s σ H Q I h
  exact wpAny_Compare1 (binT ha hb I h fun v u s2 x y H2 I2 rx ry q => ho pins s2 σ H2 x y v u Q I2 rx ry q) hm
def tTest (t : TE) : TT := fun σ H Q => t σ H fun x H' => ∃ k, x = .bl k ∧ Q k H'
theorem pt_cmpR {op : CmpOp} {r : R2} (ho : OpR X (compareOp op) r) (ha : PE X a ta) (hb : PE X b tb) (hm : behindInMarks op b = false) : PT X (.Compare a [op] [b] pos) (tTest (tOp r ta tb)) := by
  intro pins s σ H Q I h
  refine wpAny_isTrue_Compare1 (thn (ha pins s σ H _ I h) fun v s1 ⟨x, H1, I1, r1, q1⟩ => thn (hb pins s1 σ H1 _ I1 q1) fun u s2 ⟨y, H2, I2, r2, q2⟩ =>
    thn (ho pins s2 σ H2 x y v u _ I2 r1 r2 q2) fun c s3 ⟨z, H3, I3, r3, k, e, q3⟩ => ?_) hm
  subst e
  cases r3
  exact wpAny_truthy_bool ⟨H3, I3, q3⟩
def tChain (r r' : R2) (ta tb tc : TE) : TE := fun σ H Q => ta σ H fun x H1 => tb σ H1 fun y H2 => r x y H2 fun z H3 => ∃ k, z = .bl k ∧
  (if k = true then tc σ H3 fun w' H4 => r' y w' H4 Q else Q (.bl false) H3)
theorem pe_chain {op op' : CmpOp} {r r' : R2} (ho : OpR X (compareOp op) r) (ho' : OpR X (compareOp op') r') (ha : PE X a ta) (hb : PE X b tb) (hc : PE X c tc)
    (hm : lastMarks [op, op'] [b, c] = false := by with_unfolding_all rfl) : PE X (.Compare a [op, op'] [b, c] pos) (tChain r r' ta tb tc) := by
  intro pins s σ H Q I h
  refine Compare_chain (thn (ha pins s σ H _ I h) fun v s1 ⟨x, H1, I1, r1, q1⟩ => chain_link (thn (hb pins s1 σ H1 _ I1 q1) fun u s2 ⟨y, H2, I2, r2, q2⟩ =>
    thn (ho pins s2 σ H2 x y v u _ I2 r1 r2 q2) fun d s3 ⟨z, H3, I3, r3, k, e, q3⟩ => ?_)) hm
  subst e
  cases r3
  refine wpAny_truthy_bool ?_
  cases k with
  | false => exact ite_ff ⟨.bl false, H3, I3, rfl, q3⟩
  | true => exact ite_tt (chain_last (thn (hc pins s3 σ H3 _ I3 q3) fun w' s4 ⟨z', H4, I4, r4, q4⟩ => ho' pins s4 σ H4 y z' u w' Q I4 r2 r4 q4))
theorem pt_chain {op op' : CmpOp} {r r' : R2} (ho : OpR X (compareOp op) r) (ho' : OpR X (compareOp op') r') (ha : PE X a ta) (hb : PE X b tb) (hc : PE X c tc)
    (hm : lastMarks [op, op'] [b, c] = false := by with_unfolding_all rfl) : PT X (.Compare a [op, op'] [b, c] pos) (tTest (tChain r r' ta tb tc)) := by
  intro pins s σ H Q I h
  refine isTrue_chain (thn (ha pins s σ H _ I h) fun v s1 ⟨x, H1, I1, r1, q1⟩ => test_link (thn (hb pins s1 σ H1 _ I1 q1) fun u s2 ⟨y, H2, I2, r2, q2⟩ =>
    thn (ho pins s2 σ H2 x y v u _ I2 r1 r2 q2) fun d s3 ⟨z, H3, I3, r3, k, e, q3⟩ => ?_)) hm
  subst e
  cases r3
  refine wpAny_truthy_bool ?_
  cases k with
  | false =>
    obtain ⟨k', e', q'⟩ := q3
    cases e'
    exact ite_ff ⟨H3, I3, q'⟩
  | true =>
    refine ite_tt (test_last (thn (hc pins s3 σ H3 _ I3 q3) fun w' s4 ⟨z', H4, I4, r4, q4⟩ => thn (ho' pins s4 σ H4 y z' u w' _ I4 r2 r4 q4) fun d' s5 ⟨z2, H5, I5, r5, k2, e2, q5⟩ => ?_))
    subst e2
    cases r5
    exact wpAny_truthy_bool ⟨H5, I5, q5⟩
def TruV (K : PySem.W.Frag) (x : V) (H : Hp) (k : Bool) : Prop :=
  match x with
  | .non => k = false
  | .bl b => k = b
  | .int i => k = (i != 0)
  | .str y => y.length ≤ sizeLine ∧ k = ((y.length : Int) != 0)
  | .byt y => y.size ≤ sizeLine ∧ k = ((y.size : Int) != 0)
  | .ref p => (∃ xs, SqL K H p xs ∧ k = !xs.isEmpty) ∨ (∃ xs, SqT K H p xs ∧ k = !xs.isEmpty) ∨ ∃ kvs, H p = some (.dK kvs) ∧ k = !kvs.isEmpty
  | _ => False
theorem isEmpty_kv {κ : Type} {kvs : List (κ × V)} {vs : List (κ × Value)} (r : KV kvs vs) : (!vs.isEmpty) = !kvs.isEmpty := by
  cases r <;> rfl
theorem isEmpty_of {xs : List V} {its : List Value} (r : Vals xs its) : (!its.toArray.isEmpty) = !xs.isEmpty := by
  cases r <;> simp
theorem line63 : (sizeLine : Nat) < 2 ^ 63 := by rw [sizeLine_eq]; decide
theorem tru_ok : TruR X (fun x H Q => ∃ k, TruV X.K x H k ∧ Q k H) := by
  intro pins s σ H x v Q I rx h
  obtain ⟨k, e, q⟩ := h
  have hl := line63
  have hs : sizeLine = 16777216 := sizeLine_eq
  cases x with
  | non =>
    cases rx
    have e' : k = false := e
    subst e'
    exact truthy_none ⟨H, I, q⟩
  | bl b =>
    cases rx
    have e' : k = b := e
    subst e'
    exact wpAny_truthy_bool ⟨H, I, q⟩
  | int i =>
    obtain ⟨t, rfl⟩ := rx
    have e' : k = (i != 0) := e
    subst e'
    exact PySem.P.truthy_int ⟨H, I, q⟩
  | str y =>
    obtain ⟨t, rfl⟩ := rx
    obtain ⟨hy, e'⟩ : y.length ≤ sizeLine ∧ k = ((y.length : Int) != 0) := e
    subst e'
    exact PySem.P.truthy_str (by omega) ⟨H, I.tok _, q⟩
  | byt y =>
    obtain ⟨t, rfl⟩ := rx
    obtain ⟨hy, e'⟩ : y.size ≤ sizeLine ∧ k = ((y.size : Int) != 0) := e
    subst e'
    exact PySem.W.truthy_bytes (by omega) ⟨H, I.tok _, q⟩
  | ref p =>
    cases rx
    have e' : (∃ xs, SqL X.K H p xs ∧ k = !xs.isEmpty) ∨ (∃ xs, SqT X.K H p xs ∧ k = !xs.isEmpty) ∨ ∃ kvs, H p = some (.dK kvs) ∧ k = !kvs.isEmpty := e
    rcases e' with ⟨xs, hx, e'⟩ | ⟨xs, hx, e'⟩ | ⟨kvs, hx, e'⟩
    · subst e'
      obtain ⟨its, r, pl, hz⟩ := I.list hx
      have hlen := r.length
      exact wpAny_truthy_list pl.isList (by simp only [List.size_toArray]; omega) ⟨H, I.tok _, by rw [isEmpty_of r]; exact q⟩
    · subst e'
      obtain ⟨its, r, pl, hz⟩ := I.tuple hx
      have hlen := r.length
      exact truthy_tuple pl (by simp only [List.size_toArray]; omega) ⟨H, I.tok _, by rw [isEmpty_of r]; exact q⟩
    · subst e'
      obtain ⟨hz, hS, vs, r, m⟩ : kvs.length ≤ sizeLine ∧ (p == sysModules) = false ∧ ∃ vs, KV kvs vs ∧ s.heap.DictOf (mixKind X.prog X.w) p vs := I.hok p _ hx
      have hlen : kvs.length = vs.length := Paired.length r
      exact wpAny_truthy_dict hS m (by omega) ⟨H, I.tok _, by rw [isEmpty_kv r]; exact q⟩
  | _ => exact (show False from e).elim
theorem pt_truth (ha : PE X a ta) (he : ∀ whole, isTrue a X.env whole = (do let v ← whole; standAt a.pos; holding [v] (truthy v))) :
    PT X a (fun σ H Q => ta σ H fun x H' => ∃ k, TruV X.K x H' k ∧ Q k H') := by
  intro pins s σ H Q I h
  exact isTrue_plain (thn (ha pins s σ H _ I h) fun v s1 ⟨x, H1, I1, r1, q1⟩ => tru_ok pins s1 σ H1 x v Q I1 r1 q1) (he _)
theorem op_add_str : OpR X (binaryOp .Add) (fun x y H Q => ∃ i j, x = .str i ∧ y = .str j ∧ i.length + j.length ≤ sizeLine ∧ Q (.str (i ++ j)) H) := by
  intro pins s σ H x y v u Q I rx ry h
  obtain ⟨i, j, rfl, rfl, hz, q⟩ := h
  obtain ⟨t, rfl⟩ := rx
  obtain ⟨t', rfl⟩ := ry
  exact add_str (fun t' tk => ⟨.str (i ++ j), H, I.tok _, ⟨_, rfl⟩, q⟩) hz
theorem vals1 {x : V} {us : List Value} (r : Vals [x] us) : ∃ u, us = [u] ∧ RelV x u := by
  cases r with
  | cons r1 r2 => cases r2; exact ⟨_, rfl, r1⟩
theorem vals2 {x y : V} {us : List Value} (r : Vals [x, y] us) : ∃ u w', us = [u, w'] ∧ RelV x u ∧ RelV y w' := by
  cases r with
  | cons r1 r2 =>
    cases r2 with
    | cons r3 r4 => cases r4; exact ⟨_, _, rfl, r1, r3⟩
theorem call_max2 (hc : X.calm = true) : CallR X (.builtin "max") (fun xs H Q => ∃ i j, xs = [.int i, .int j] ∧ Q (.int (if j > i then j else i)) H) := by
  intro pins s σ H xs us Q I r h
  obtain ⟨i, j, rfl, q⟩ := h
  obtain ⟨u, w', rfl, ⟨t, rfl⟩, ⟨t', rfl⟩⟩ := vals2 r
  refine max_two_ints (I.ok.hd hc) fun h' tk k => ⟨_, H, I.kept k, ?_, q⟩
  by_cases hj : j > i
  · rw [if_pos hj, if_pos hj]; exact ⟨_, rfl⟩
  · rw [if_neg hj, if_neg hj]; exact ⟨_, rfl⟩
theorem call_str_int : CallR X (.type "str") (fun xs H Q => ∃ i, xs = [.int i] ∧ i.natAbs.log2 < 1920 ∧ Q (.str (toString i)) H) := by
  intro pins s σ H xs us Q I r h
  obtain ⟨i, rfl, hz, q⟩ := h
  obtain ⟨u, rfl, t, rfl⟩ := vals1 r
  exact PySem.P.str_of_int hz ⟨.str _, H, I.tok _, ⟨_, rfl⟩, q⟩
theorem call_ord : CallR X (.builtin "ord") (fun xs H Q => ∃ x, xs = [.str x] ∧ x.length = 1 ∧ Q (.int (x.cps.getD 0 0 : Nat)) H) := by
  intro pins s σ H xs us Q I r h
  obtain ⟨x, rfl, hz, q⟩ := h
  obtain ⟨u, rfl, t, rfl⟩ := vals1 r
  exact ord_of_one hz ⟨.int _, H, I.tok _, ⟨_, rfl⟩, q⟩
end
end L2
namespace L2
open PySem PySem.Spec PyProof.Rows
structure ObjM (h : Heap) (x dx C : Addr) (mA : Str → Option Value) : Prop where
  obj : h.get? x = some (PySem.W.instObj C dx)
  ns : h.Ns1 dx mA
  ne : dx ≠ x
theorem lookIn_ns {h : Heap} {dx : Addr} {mA : Str → Option Value} (n : h.Ns1 dx mA) : ∃ od, h.get? dx = some od ∧ ∀ name, PySem.W.lookIn name od = some (mA name) := by
  obtain ⟨o, es, ep, ho, hd, hk, _, hm⟩ := n
  refine ⟨o, ho, fun name => ?_⟩
  have e := hm name
  unfold nsFind findBy at e
  rw [← Array.find?_toList] at e
  unfold PySem.W.lookIn
  rw [hd]
  dsimp only
  split
  · rename_i y q
    rw [q] at e
    exact congrArg some e
  · rename_i q
    rw [q] at e
    have a : es.toList.any (·.refKey) = false := by
      rw [List.any_eq_false]
      intro y hy
      obtain ⟨z, t, hkey⟩ := hk y (Array.mem_toList_iff.mp hy)
      simp [DictEntry.refKey, hkey]
    have a' : ¬ es.toList.any (·.refKey) = true := by rw [a]; exact Bool.false_ne_true
    rw [if_neg a']
    exact congrArg some e
theorem ObjM.look {h : Heap} {x dx C : Addr} {mA : Str → Option Value} (I : ObjM h x dx C mA) : ∃ od, PySem.W.InstAt h x (PySem.W.instObj C dx) C (some od) ∧ ∀ name, PySem.W.lookIn name od = some (mA name) :=
  let ⟨od, ho, hl⟩ := lookIn_ns I.ns
  ⟨od, ⟨I.obj, rfl, rfl, ho⟩, hl⟩
section
variable {prog : Program} {w : World} {A : Around} {E : Value → Shared → Prop} {s : Shared} {K : PySem.W.Frag} {x dx C f : Addr} {mA : Str → Option Value} {name : Str} {v : Value}
theorem get_map {expr : Bool} {Q : Value → Shared → Prop} (X : K.In s.heap) (I : ObjM s.heap x dx C mA) (hg : PySem.W.plainGet K C name = true) (hh : PySem.W.hasDictIn K C = true)
    (ha : PySem.W.findIn K (.ref C) name = some none) (hv : mA name = some v) (hv' : PySem.W.handedIn v = true) (h : Q v { s with toks := s.toks + 1 }) :
    wpAny (model prog w) A (getAttr (.ref x) name expr) Q E s := by
  obtain ⟨od, J, hl⟩ := I.look
  exact PySem.W.get_value X J (PySem.W.plainGet_of hg).1 (PySem.W.findObj_own hh ha rfl (by rw [hl, hv])) hv' h
theorem get_meth {pl : Sem Bool} {Q : Value × List Value → Shared → Prop} (X : K.In s.heap) (I : ObjM s.heap x dx C mA) (hg : PySem.W.plainGet K C name = true)
    (hf : PySem.W.findIn K (.ref C) name = some (some (.ref f))) (ht : PySem.W.isFn K (.ref f) = true) (hv : mA name = none) (h : Q (.ref f, [.ref x]) s) :
    wpAny (model prog w) A (getMethod (.ref x) name pl) Q E s := by
  obtain ⟨od, J, hl⟩ := I.look
  exact PySem.W.method_fn X J (PySem.W.plainGet_of hg).1 (PySem.W.plainGet_of hg).2 hf (beq_iff_eq.mp ht) (by show (PySem.W.lookIn name od).map (·.isSome) = some false; rw [hl, hv]; rfl) h
theorem set_map {ns : List Str} {Q : Unit → Shared → Prop} (X : K.In s.heap) (I : ObjM s.heap x dx C mA)
    (hs : PySem.W.findIn K (.ref C) "__setattr__" = some (some (.builtin "object.__setattr__"))) (hp : PySem.W.plainOver K C = true) (ht : PySem.W.takerIn K C name = some none) (hh : PySem.W.hasDictIn K C = true)
    (hw : PySem.Within mA ns) (hsz : ns.length ≤ sizeLine)
    (h : ∀ h', ObjM h' x dx C (fun y => if y = name then some v else mA y) → Heap.SameBut dx s.heap h' → Q () { s with heap := h', toks := s.toks + 2 }) :
    wpAny (model prog w) A (setAttr (.ref x) name v) Q E s := by
  obtain ⟨od, J, hl⟩ := I.look
  refine PySem.W.set_plain X J hs (PySem.W.osa_open (s := { s with toks := s.toks + 1 }) (r := none) X J hp ht fun b => ?_)
  obtain ⟨cd, hc, hd'⟩ := PySem.W.any_some hh
  have hx : s.heap.get? x = some ⟨.ref C, some dx, .plain, #[]⟩ := I.obj
  refine wpAny_bind (wpAny_pure (wpAny_bind (wpAny_bind (wpAny_loadPart hx (wpAny_bind (PySem.W.Looks.here (s := { s with toks := s.toks + 1 }) (PySem.W.looks_clsIn X hc) ?_))))))
  rw [hd']
  refine wpAny_pure (a := some dx) (wpAny_bind (wpAny_pure (wpAny_bind ?_)))
  refine wpAny_nsSet1 (s := { s with toks := s.toks + 1 }) I.ns fun h' hn2 hs2 => ?_
  obtain ⟨oD, esD, epD, hoD, hdD, hcD⟩ := hn2.count (PySem.Within.cons name v hw)
  refine wpAny_bind (wpAny_lookBehind hoD (by rw [hdD]; exact pastItsLine_dict (Nat.le_trans hcD (by rw [List.length_cons]; omega))) ?_)
  exact wpAny_pure (h _ ⟨(hs2.2 _ (Ne.symm I.ne)).trans I.obj, hn2, I.ne⟩ hs2)
theorem make_map {R : Result → Shared → Prop} {vs : List Value} {kw : List (Str × Value)} (X : K.In s.heap) (hm : PySem.W.makesIn K C = true)
    (hi : PySem.W.findIn K (.ref C) "__init__" = some (some (.ref f))) (hf : PySem.W.typeIn K (.ref f) = some (.type "function"))
    (h : codeAny (model prog w) (A.under (.builtin "type.__call__" ⟨.ref C :: vs, kw⟩)) (.call (.ref f) ⟨.ref (s.heap.objs.size + 1) :: vs, kw⟩) (PySem.W.InitBack (s.heap.objs.size + 1) R)
      { s with heap := (s.heap.push PySem.W.emptyDict).push (PySem.W.instObj C s.heap.objs.size) }) :
    codeAny (model prog w) A (.call (.ref C) ⟨vs, kw⟩) R s := by
  obtain ⟨hh, g, d, t, os⟩ := s
  exact PySem.W.make_core (PySem.W.makes_of X hm) (PySem.W.looks_findIn X hi) (fun self => PySem.W.bind_fn X self hf) (.inl rfl) h
end
def putF (f : Str) (v : V) : List (Str × V) → List (Str × V)
  | [] => [(f, v)]
  | (g, x) :: r => if g = f then (g, v) :: r else (g, x) :: putF f v r
theorem lookup_putF (f g : Str) (v : V) : ∀ fs : List (Str × V), (putF f v fs).lookup g = if g = f then some v else fs.lookup g
  | [] => by
    show List.lookup g [(f, v)] = _
    by_cases h : g = f
    · have hb : (g == f) = true := beq_iff_eq.mpr h
      simp only [List.lookup, hb, if_pos h]
    · have hb : (g == f) = false := beq_eq_false_iff_ne.mpr h
      simp only [List.lookup, hb, if_neg h]
  | (k, x) :: r => by
    have ih := lookup_putF f g v r
    rw [show putF f v ((k, x) :: r) = (if k = f then (k, v) :: r else (k, x) :: putF f v r) from rfl]
    by_cases hk : k = f
    · rw [if_pos hk]
      by_cases h : g = k
      · have hb : (g == k) = true := beq_iff_eq.mpr h
        simp only [List.lookup, hb, if_pos (h.trans hk)]
      · have hb : (g == k) = false := beq_eq_false_iff_ne.mpr h
        simp only [List.lookup, hb, if_neg (fun e : g = f => h (e.trans hk.symm))]
    · rw [if_neg hk]
      by_cases h : g = k
      · have hb : (g == k) = true := beq_iff_eq.mpr h
        simp only [List.lookup, hb, if_neg (fun e : g = f => hk (h.symm.trans e))]
      · have hb : (g == k) = false := beq_eq_false_iff_ne.mpr h
        simp only [List.lookup, hb]
        exact ih
theorem keys_putF (f : Str) (v : V) : ∀ fs : List (Str × V), f ∈ (putF f v fs).map (·.1) ∧ ∀ g, g ∈ fs.map (·.1) → g ∈ (putF f v fs).map (·.1)
  | [] => ⟨by simp [putF], fun g h => by simp at h⟩
  | (k, x) :: r => by
    obtain ⟨i1, i2⟩ := keys_putF f v r
    rw [show putF f v ((k, x) :: r) = (if k = f then (k, v) :: r else (k, x) :: putF f v r) from rfl]
    by_cases hk : k = f
    · rw [if_pos hk]
      subst hk
      exact ⟨by simp, fun g h => by simpa using h⟩
    · rw [if_neg hk]
      refine ⟨?_, fun g h => ?_⟩
      · rw [List.map_cons]
        exact List.mem_cons_of_mem _ i1
      · rw [List.map_cons] at h ⊢
        rcases List.mem_cons.mp h with e | e
        · exact List.mem_cons.mpr (.inl e)
        · exact List.mem_cons_of_mem _ (i2 g e)
theorem length_putF (f : Str) (v : V) : ∀ fs : List (Str × V), (putF f v fs).length ≤ fs.length + 1
  | [] => by simp [putF]
  | (k, x) :: r => by
    have ih := length_putF f v r
    rw [show putF f v ((k, x) :: r) = (if k = f then (k, v) :: r else (k, x) :: putF f v r) from rfl]
    by_cases hk : k = f
    · rw [if_pos hk, List.length_cons, List.length_cons]; omega
    · rw [if_neg hk, List.length_cons, List.length_cons]; omega
theorem RelO.some_of {v : V} {o : Option Value} (r : RelO (some v) o) : ∃ u, o = some u ∧ RelV v u := by
  cases o with
  | none => exact (show False from r).elim
  | some u => exact ⟨u, rfl, r⟩
theorem RelO.none_of {o : Option Value} (r : RelO none o) : o = none := by
  cases o with
  | none => rfl
  | some u => exact (show False from r).elim
theorem handed_of {v : V} {u : Value} (r : RelV v u) : PySem.W.handedIn u = true := by
  cases v with
  | non => cases (show u = Value.none from r); rfl
  | bl b => cases (show u = Value.bool b from r); rfl
  | int i => obtain ⟨t, e⟩ := (show ∃ t, u = Value.int i t from r); cases e; rfl
  | str x => obtain ⟨t, e⟩ := (show ∃ t, u = Value.str x t from r); cases e; rfl
  | byt b => obtain ⟨t, e⟩ := (show ∃ t, u = Value.bytes b t from r); cases e; rfl
  | flt b => obtain ⟨t, e⟩ := (show ∃ t, u = Value.float b t from r); cases e; rfl
  | ref a => cases (show u = Value.ref a from r); rfl
  | ty n => cases (show u = Value.type n from r); rfl
section
variable {P : Program} {w : World} {H H' : Hp} {h h' : Heap} {a C dx : Addr} {fs fs' : List (Str × V)}
theorem ins_get (hok : HOk P w H h) (e : H a = some (.ins C dx fs)) : ∃ mA, ObjM h a dx C mA ∧ (∀ f, RelO (fs.lookup f) (mA f)) ∧ PySem.Within mA (fs.map (·.1)) ∧ fs.length ≤ 1000 ∧ H dx = some (.own a) := by
  obtain ⟨d, z, ne, ob, mA, n, r, q⟩ := (show ObjOk P w H h a (.ins C dx fs) from hok a _ e)
  exact ⟨mA, ⟨ob, n, ne⟩, r, q, z, d⟩
end
structure Cls (K : PySem.W.Frag) (C : Addr) : Prop where
  pg : PySem.W.plainGet K C Str.empty = true
  hd : PySem.W.hasDictIn K C = true
  po : PySem.W.plainOver K C = true
  sa : PySem.W.findIn K (.ref C) "__setattr__" = some (some (.builtin "object.__setattr__"))
theorem Cls.get {K : PySem.W.Frag} {C : Addr} (c : Cls K C) (f : Str) : PySem.W.plainGet K C f = true := c.pg
def NoAttr (K : PySem.W.Frag) (C : Addr) (f : Str) : Prop := PySem.W.findIn K (.ref C) f = some none
theorem NoAttr.taker {K : PySem.W.Frag} {C : Addr} {f : Str} (n : NoAttr K C f) : PySem.W.takerIn K C f = some none := by
  unfold PySem.W.takerIn
  rw [show PySem.W.findIn K (.ref C) f = some none from n]
  rfl
structure Meth (K : PySem.W.Frag) (C : Addr) (m : Str) (f : Addr) : Prop where
  at_ : PySem.W.findIn K (.ref C) m = some (some (.ref f))
  fn : PySem.W.isFn K (.ref f) = true
  kp : PySem.W.keepIn K (.ref f) = true
section
variable {X : Cx} {pins : List (Addr × Obj)} {σ : St} {H : Hp} {s : Shared} {a C dx : Addr} {fs : List (Str × V)} {f : Str} {v : V} {A : Around} {E : Value → Shared → Prop}
theorem getattr_ok {b : Bool} {Q : Value → Shared → Prop} (I : Inv X pins σ H s) (e : H a = some (.ins C dx fs)) (c : Cls X.K C) (n : NoAttr X.K C f) (l : fs.lookup f = some v)
    (h : ∀ u s', Inv X pins σ H s' → RelV v u → Q u s') : wpAny (model X.prog X.w) A (getAttr (.ref a) f b) Q E s := by
  obtain ⟨mA, O, r, _, _, _⟩ := ins_get I.hok e
  obtain ⟨u, hu, ru⟩ := RelO.some_of (v := v) (o := mA f) (by rw [← l]; exact r f)
  exact get_map I.kIn O (c.get f) c.hd n hu (handed_of ru) (h u _ (I.tok _) ru)
theorem getmeth_ok {m : Str} {g : Addr} {pl : Sem Bool} {Q : Value × List Value → Shared → Prop} (I : Inv X pins σ H s) (e : H a = some (.ins C dx fs)) (c : Cls X.K C) (k : Meth X.K C m g) (l : fs.lookup m = none)
    (h : Q (.ref g, [.ref a]) s) : wpAny (model X.prog X.w) A (getMethod (.ref a) m pl) Q E s := by
  obtain ⟨mA, O, r, _, _, _⟩ := ins_get I.hok e
  have hn : mA m = none := RelO.none_of (by rw [← l]; exact r m)
  exact get_meth I.kIn O (c.get m) k.at_ k.fn hn h
theorem setattr_ok {y : V} {u : Value} {Q : Unit → Shared → Prop} (I : Inv X pins σ H s) (e : H a = some (.ins C dx fs)) (c : Cls X.K C) (n : NoAttr X.K C f) (hl : fs.length < 1000) (ry : RelV y u)
    (h : ∀ s', Inv X pins σ (upd H a (.ins C dx (putF f y fs))) s' → Q () s') : wpAny (model X.prog X.w) A (setAttr (.ref a) f u) Q E s := by
  obtain ⟨mA, O, r, wi, _, ho⟩ := ins_get I.hok e
  have hz : (fs.map (·.1)).length ≤ sizeLine := by rw [List.length_map, sizeLine_eq]; omega
  refine set_map I.kIn O c.sa c.po n.taker c.hd wi hz fun h' O' sb => h _ ?_
  have hd : ∃ o, h'.get? dx = some o := let ⟨o, _, _, e', _⟩ := O'.ns; ⟨o, e'⟩
  refine I.write (x := a) (e := dx) (by rw [e]; exact True.intro) (.inr ho) (fun b q hb z => (sb.2 b hb).trans z) hd ?_
  refine ⟨by rw [upd_ne O.ne]; exact ho, ?_, O.ne, O'.obj, _, O'.ns, fun g => ?_, fun g hg => ?_⟩
  · have := length_putF f y fs; omega
  · show RelO ((putF f y fs).lookup g) (if g = f then some u else mA g)
    rw [lookup_putF]
    by_cases q : g = f
    · rw [if_pos q, if_pos q]; exact ry
    · rw [if_neg q, if_neg q]; exact r g
  · by_cases q : g = f
    · rw [q]; exact (keys_putF f y fs).1
    · refine (keys_putF f y fs).2 g (wi g fun z => hg ?_)
      show (if g = f then some u else mA g) = none
      rw [if_neg q]; exact z
theorem Inv.made (I : Inv X pins σ H s) : Inv X pins σ (upd (upd H s.heap.objs.size (.own (s.heap.objs.size + 1))) (s.heap.objs.size + 1) (.ins C s.heap.objs.size []))
    { s with heap := (s.heap.push PySem.W.emptyDict).push (PySem.W.instObj C s.heap.objs.size) } := by
  have e1 : (s.heap.push PySem.W.emptyDict).get? s.heap.objs.size = some PySem.W.emptyDict := Heap.get?_push_size s.heap rfl
  have e2 : ((s.heap.push PySem.W.emptyDict).push (PySem.W.instObj C s.heap.objs.size)).get? (s.heap.objs.size + 1) = some (PySem.W.instObj C s.heap.objs.size) := by
    have := Heap.get?_push_size (s.heap.push PySem.W.emptyDict) (o := PySem.W.instObj C s.heap.objs.size) rfl
    rwa [Heap.size_push] at this
  have e3 : (s.heap.push PySem.W.emptyDict).Ns s.heap.objs.size (fun _ => none) := ⟨PySem.W.emptyDict, #[], _, e1, rfl, (fun e he => absurd he (by simp)), fun _ => rfl⟩
  have I1 := I.laid (a := s.heap.objs.size) (o := .own (s.heap.objs.size + 1)) (h' := s.heap.push PySem.W.emptyDict) (t' := s.toks) (fun b u q => Heap.get?_push_of_some _ q) (Nat.le_refl _) ⟨_, e1⟩
  refine I1.laid (a := s.heap.objs.size + 1) (o := .ins C s.heap.objs.size []) (t' := s.toks) (fun b u q => Heap.get?_push_of_some _ q) (Nat.le_of_eq (Heap.size_push _ _)) ?_
  have ne : s.heap.objs.size ≠ s.heap.objs.size + 1 := Nat.ne_of_lt (Nat.lt_succ_self _)
  refine ⟨by rw [upd_ne ne, upd_same], Nat.zero_le _, ne, e2, fun _ => none, (Heap.Ns1.of_empty e3).at fun o q => Heap.get?_push_of_some _ q, fun _ => True.intro, fun y hy => absurd rfl hy⟩
theorem attr_of {prog : Program} {w : World} {env : Env} {e : Expr} {f : Str} {pos : Pos} {s : Shared} {Q : Value → Shared → Prop} (hb : attributeBase e f env (eval e env) = eval e env)
    (h : wpAny (model prog w) A (eval e env) (fun o s₁ => wpAny (model prog w) A (getAttr o f true) Q E s₁) E s) : wpAny (model prog w) A (eval (.Attribute e f pos) env) Q E s :=
  Attribute_any_ h (by rw [arm_eval_Attribute, hb])
end
def tFld (K : PySem.W.Frag) (ta : TE) (f : Str) : TE := fun σ H Q => ta σ H fun x H1 => ∃ a C dx fs v, x = .ref a ∧ H1 a = some (.ins C dx fs) ∧ Cls K C ∧ NoAttr K C f ∧ fs.lookup f = some v ∧ Q v H1
def sFld (K : PySem.W.Frag) (ta tv : TE) (f : Str) : TS := fun D σ H => tv σ H fun y H1 => ta σ H1 fun x H2 => ∃ a C dx fs, x = .ref a ∧ H2 a = some (.ins C dx fs) ∧ Cls K C ∧ NoAttr K C f ∧ fs.length < 1000 ∧
  D.nx σ (upd H2 a (.ins C dx (putF f y fs)))
def InOp (X : Cx) (op : Operator) (rd : V → V → Hp → VK → Prop) : Prop :=
  ∀ (pins : List (Addr × Obj)) (s : Shared) (σ : St) (H : Hp) (x y : V) (u v : Value) (Q : VK), Inv X pins σ H s → RelV x u → RelV y v → rd x y H Q → wpAny (model X.prog X.w) X.A (inplaceOp op u v) (EP X pins σ Q) X.xe s
def sFldAug (K : PySem.W.Frag) (ta tv : TE) (rd : V → V → Hp → VK → Prop) (f : Str) : TS := fun D σ H => ta σ H fun x H1 => ∃ a C dx fs v, x = .ref a ∧ H1 a = some (.ins C dx fs) ∧ Cls K C ∧ NoAttr K C f ∧ fs.lookup f = some v ∧
  tv σ H1 fun y H2 => rd v y H2 fun z H3 => ∃ dx' fs', H3 a = some (.ins C dx' fs') ∧ fs'.length < 1000 ∧ D.nx σ (upd H3 a (.ins C dx' (putF f z fs')))
section
variable {X : Cx} {o e value : Expr} {f : Str} {pos pos' tpos : Pos} {ta tv : TE}
theorem pe_fld (he : PE X e ta) (hb : attributeBase e f X.env (eval e X.env) = eval e X.env) : PE X (.Attribute e f pos) (tFld X.K ta f) := by
  intro pins s σ H Q I h
  refine attr_of hb (thn (he pins s σ H _ I h) fun u s1 ⟨x, H1, I1, rx, a, C, dx, fs, v, ex, ea, c, n, l, q⟩ => ?_)
  subst ex
  obtain rfl : u = Value.ref a := rx
  exact getattr_ok I1 ea c n l fun u' s2 I2 ru => ⟨v, H1, I2, ru, q⟩
theorem ps_fld (ha : PE X o ta) (hv : PE X value tv) (hs : swapsWith value (some (.Attribute o f pos')) pos.line X.env = pure false) : PS X (.Assign [.Attribute o f pos'] value pos) (sFld X.K ta tv f) := by
  intro pins s σ H D I h
  refine plainObj_wpAny_Assign_Attribute (thn (hv pins s σ H _ I h) fun u s1 ⟨y, H1, I1, ry, q⟩ => thn (ha pins s1 σ H1 _ I1 q) fun ov s2 ⟨x, H2, I2, rx, a, C, dx, fs, ex, ea, c, n, l, q2⟩ => ?_) hs
  subst ex
  obtain rfl : ov = Value.ref a := rx
  exact setattr_ok I2 ea c n l ry fun s3 I3 => ⟨σ, _, I3, q2⟩
theorem ps_fldaug {op : Operator} {rd : V → V → Hp → VK → Prop} (ha : PE X o ta) (hv : PE X value tv) (hop : InOp X op rd) : PS X (.AugAssign (.Attribute o f tpos) op value pos) (sFldAug X.K ta tv rd f) := by
  intro pins s σ H D I h
  refine wpAny_AugAssign_AttributeAny (thn (ha pins s σ H _ I h) fun ov s1 ⟨x, H1, I1, rx, a, C, dx, fs, v, ex, ea, c, n, l, q⟩ => ?_)
  subst ex
  obtain rfl : ov = Value.ref a := rx
  refine getattr_ok I1 ea c n l fun u s2 I2 ru => thn (hv pins s2 σ H1 _ I2 q) fun w3 s3 ⟨y, H2, I3, ry, q3⟩ => thn (hop pins s3 σ H2 v y u w3 _ I3 ru ry q3) fun w4 s4 ⟨z, H3, I4, rz, dx', fs', ea', l', q4⟩ => ?_
  exact setattr_ok I4 ea' c n l' rz fun s5 I5 => ⟨σ, _, I5, q4⟩
def rAdd : V → V → Hp → VK → Prop := fun x y H Q => ∃ i j, x = .int i ∧ y = .int j ∧ Q (.int (i + j)) H
theorem in_add : InOp X .Add rAdd := by
  rintro pins s σ H x y u v Q I rx ry ⟨i, j, rfl, rfl, q⟩
  obtain ⟨t, rfl⟩ := (show ∃ t, u = Value.int i t from rx)
  obtain ⟨t', rfl⟩ := (show ∃ t', v = Value.int j t' from ry)
  exact PyProof.Rows.iadd_int ⟨.int (i + j), H, I.tok _, ⟨_, rfl⟩, q⟩
end
section
variable {X : Cx} {pins : List (Addr × Obj)} {σ : St} {H : Hp} {s : Shared} {A : Around} {E : Value → Shared → Prop} {Q : Value → Shared → Prop} {c : Value} {b : Bool}
end
end L2
namespace L2
open PySem PySem.Spec PyProof.Rows
structure Room (k : Nat) (A : Around) : Prop where
  hd : A.handled = none
  dp : A.depth + 3 * k + 5 < recursionLimit
  un : A.units + 16 * k + 200 < cLine
theorem Room.mono {j k : Nat} {A : Around} (r : Room k A) (h : j ≤ k) : Room j A := ⟨r.hd, by have := r.dp; omega, by have := r.un; omega⟩
theorem Room.deeper {k : Nat} {A : Around} (r : Room (k + 1) A) (env : Env) : Room k (A.deeper env) :=
  ⟨r.hd, by have := r.dp; show A.depth + 1 + 3 * k + 5 < _; omega, by have := r.un; show A.units + 3 + 16 * k + 200 < _; omega⟩
theorem make_depth {A : Around} {C : Addr} {us : List Value} {kw : List (Str × Value)} : (A.under (.builtin "type.__call__" ⟨.ref C :: us, kw⟩)).depth = A.depth + 1 := by
  first | rfl | simp [Around.under, Code.weight, Code.isCreation, Code.isGuard, Code.isCaller, Code.frames, Code.isFrame, guardIds]
theorem make_units {A : Around} {C : Addr} {us : List Value} {kw : List (Str × Value)} : (A.under (.builtin "type.__call__" ⟨.ref C :: us, kw⟩)).units = A.units + 1 := by
  first | rfl | simp [Around.under, Code.cUnits, Code.frames, Code.isFrame]
theorem Room.make {k : Nat} {A : Around} (r : Room (k + 1) A) (C : Addr) (us : List Value) (kw : List (Str × Value)) : Room k (A.under (.builtin "type.__call__" ⟨.ref C :: us, kw⟩)) :=
  ⟨r.hd, by have := r.dp; rw [make_depth]; omega, by have := r.un; rw [make_units]; omega⟩
theorem Room.depth {k : Nat} {A : Around} (r : Room k A) : A.depth < recursionLimit := by have := r.dp; omega
theorem Room.units {k : Nat} {A : Around} (r : Room k A) : A.units + 64 < cLine := by have := r.un; omega
def tNil : TA := fun _ H Q => Q [] H
def tCons (ta : TE) (tr : TA) : TA := fun σ H Q => ta σ H fun x H1 => tr σ H1 fun xs H2 => Q (x :: xs) H2
section
variable {X : Cx} {e : Expr} {es : List Expr} {te : TE} {t : TA} {pos : Pos}
theorem pa_nil : PA X [] tNil := fun _ _ _ _ H Q I h => Calls.spliced_nil ⟨[], H, I, .nil, h⟩
theorem pa_cons (ha : PE X e te) (hr : PA X es t) (hs : starEach (e :: es) X.env = (false, eval e X.env) :: starEach es X.env := by rfl) : PA X (e :: es) (tCons te t) := by
  intro pos pins s σ H Q I h
  rw [hs]
  show wpAny _ _ (spliced ((false, eval e X.env) :: backTo pos (starEach es X.env))) _ _ s
  refine Calls.spliced_cons (thn (ha pins s σ H _ I h) fun u s1 ⟨x, H1, I1, r1, q1⟩ => ?_)
  exact thn (hr pos pins s1 σ H1 _ I1 q1) fun us s2 ⟨xs, H2, I2, r2, q2⟩ => ⟨x :: xs, H2, I2, .cons r1 r2, q2⟩
def tTup (t : TA) : TE := fun σ H Q => t σ H fun xs H1 => xs.length ≤ sizeLine ∧ ∀ p, H1 p = none → Q (.ref p) (upd H1 p (.tup xs))
def tLst (t : TA) : TE := fun σ H Q => t σ H fun xs H1 => xs.length ≤ sizeLine ∧ ∀ p, H1 p = none → Q (.ref p) (upd H1 p (.lst xs))
theorem pe_tup {x1} (h : PA X es t) : PE X (.Tuple es x1 pos) (tTup t) := by
  intro pins s σ H Q I hq
  refine wpAny_Tuple_spliced (thn (h pos pins s σ H _ I hq) fun us s1 ⟨xs, H1, I1, r, z, q⟩ => ⟨by rw [← r.length]; exact z, ?_⟩)
  have hf : H1 s1.heap.objs.size = none := I1.hok.fresh (Nat.le_refl _)
  refine ⟨.ref s1.heap.objs.size, upd H1 s1.heap.objs.size (.tup xs), I1.laid (t' := s1.toks) (fun b u e => Heap.get?_push_of_some _ e) (Nat.le_refl _) ?_, rfl, q _ hf⟩
  exact ⟨z, us, r, ⟨_, Heap.get?_push_size _ rfl, rfl, _, rfl⟩⟩
theorem pe_lst (h : PA X es t) : PE X (.List es pos) (tLst t) := by
  intro pins s σ H Q I hq
  refine wpAny_List_spliced (thn (h pos pins s σ H _ I hq) fun us s1 ⟨xs, H1, I1, r, z, q⟩ => ⟨by rw [← r.length]; exact z, ?_⟩)
  have hf : H1 s1.heap.objs.size = none := I1.hok.fresh (Nat.le_refl _)
  refine ⟨.ref s1.heap.objs.size, upd H1 s1.heap.objs.size (.lst xs), I1.laid (t' := s1.toks) (fun b u e => Heap.get?_push_of_some _ e) (Nat.le_refl _) ?_, rfl, q _ hf⟩
  exact ⟨z, us, 0, r, Heap.get?_push_size _ rfl⟩
end
abbrev Sp := List V → Hp → VK → XK → Prop
abbrev CXT := List Env → Hp → Shared → XK → Value → Shared → Prop
structure Env0 (P : Program) (w : World) (K : PySem.W.Frag) (mg : Str → Option Value) (base : Heap) (A : Around) (outer : List Env) (s : Shared) (H : Hp) : Prop where
  frames : A.frames = some outer
  mod : Mod K mg base
  bs : ∀ b o, base.get? b = some o → s.heap.get? b = some o ∧ H b = none
  bsz : base.objs.size ≤ s.heap.objs.size
  funs : s.heap.FunFrames base outer
  frf : ∀ b ∈ frs outer, H b = none
  hok : HOk P w H s.heap
  bare : AllBare s.gens
def CE (outer : List Env) (P : Program) (w : World) (H : Hp) (s : Shared) (Q : VK) (u : Value) (s' : Shared) : Prop :=
  ∃ v H', s'.os = s.os ∧ AllBare s'.gens ∧ Un (frs outer) [] H H' s.heap s'.heap ∧ HOk P w H' s'.heap ∧ RelV v u ∧ Q v H'
def CR (CX : CXT) (outer : List Env) (P : Program) (w : World) (H : Hp) (s : Shared) (Q : VK) (E : XK) (r : Result) (s' : Shared) : Prop :=
  match r with
  | .ok (.ret u) => CE outer P w H s Q u s'
  | .ok _ => False
  | .error e => CX outer H s E e s'
structure FnOk (P : Program) (w : World) (K : PySem.W.Frag) (mg : Str → Option Value) (base : Heap) (CX : CXT) (k : Nat) (f : Addr) (fd : FuncData) (ps : List Str) (sp : Sp) : Prop where
  len : ∀ vs H Q E, sp vs H Q E → vs.length = ps.length
  run : ∀ (A : Around) (outer : List Env) (s : Shared) (H : Hp) (args : Args) (us : List Value) (vs : List V) (Q : VK) (E : XK), Room k A → Env0 P w K mg base A outer s H → BindsTo s fd args (ps.zip us) → Vals vs us → sp vs H Q E →
    codeAny (model P w) A (.call (.ref f) args) (CR CX outer P w H s Q E) s
theorem Env0.make {P : Program} {w : World} {K : PySem.W.Frag} {mg : Str → Option Value} {base : Heap} {A : Around} {outer : List Env} {s : Shared} {H : Hp} (e : Env0 P w K mg base A outer s H) (C : Addr) (us : List Value) (kw : List (Str × Value)) :
    Env0 P w K mg base (A.under (.builtin "type.__call__" ⟨.ref C :: us, kw⟩)) outer s H := ⟨by first | exact e.frames | (simpa [Around.under, Code.envs, Code.isFrame, pushEnvs] using e.frames), e.mod, e.bs, e.bsz, e.funs, e.frf, e.hok, e.bare⟩
section
variable {X : Cx} {pins : List (Addr × Obj)} {σ : St} {H : Hp} {s s' : Shared}
theorem Inv.env0 (I : Inv X pins σ H s) : Env0 X.prog X.w X.K X.mg X.base X.A X.stack s H :=
  ⟨I.ok.frames, I.ok.mod, I.bs, Nat.le_trans I.ok.bsz I.sz, I.stack, I.stkFree, I.hok, I.bare⟩
theorem Inv.after {Q : VK} {u : Value} (I : Inv X pins σ H s) (h : CE X.stack X.prog X.w H s Q u s') : EP X pins σ Q u s' := by
  obtain ⟨v, H', os, bare, un, hok, r, q⟩ := h
  obtain ⟨hh, g, d, t, os'⟩ := s'
  obtain rfl : os' = s.os := os
  exact ⟨v, H', I.call (h' := hh) (g' := g) (d' := d) (t' := t) (ch := []) un hok bare (fun b z => absurd z (by simp)), r, q⟩
end
def tCall (sp : Sp) (dvs : List V) (E : XK) (t : TA) : TE := fun σ H Q => t σ H fun vs H1 => sp (vs ++ dvs) H1 Q E
def tMeth (C : Addr) (m : Str) (sp : Sp) (dvs : List V) (E : XK) (ta : TE) (t : TA) : TE := fun σ H Q => ta σ H fun x H1 => ∃ a dx fs, x = .ref a ∧ H1 a = some (.ins C dx fs) ∧ fs.lookup m = none ∧
  t σ H1 fun vs H2 => sp (x :: (vs ++ dvs)) H2 Q E
def tMake (C : Addr) (sp : Sp) (dvs : List V) (E : XK) (t : TA) : TE := fun σ H Q => t σ H fun vs H1 => ∀ x dx, H1 x = none → H1 dx = none → dx ≠ x →
  sp (.ref x :: (vs ++ dvs)) (upd (upd H1 dx (.own x)) x (.ins C dx [])) (fun v H2 => v = .non ∧ Q (.ref x) H2) E
def Binds (K : PySem.W.Frag) (fd : FuncData) (ps : List Str) (ds : List Value) : Prop :=
  ∀ (s : Shared) (us : List Value), K.In s.heap → (us ++ ds).length = ps.length → BindsTo s fd ⟨us, []⟩ (ps.zip (us ++ ds))
theorem Binds.all {K : PySem.W.Frag} {fd : FuncData} {ps : List Str} (h : ∀ us : List Value, us.length = ps.length → bindArgs fd ⟨us, []⟩ = pure (ps.zip us)) : Binds K fd ps [] := fun s us _ hl => by
  rw [List.append_nil] at hl ⊢
  exact .of_eq (h us hl)
def Passes (CX : CXT) (X : Cx) (E : XK) : Prop := ∀ (pins : List (Addr × Obj)) (σ : St) (H : Hp) (s : Shared) (e : Value) (s' : Shared), Inv X pins σ H s → CX X.stack H s E e s' → X.xe e s'
section
variable {X : Cx} {CX : CXT} {k : Nat} {f C : Addr} {fd : FuncData} {ps : List Str} {sp : Sp} {dvs : List V} {ds : List Value} {E : XK} {x m : Str} {p pos apos : Pos} {e o : Expr} {es : List Expr} {ta : TE} {t : TA}
theorem run_fn {pins : List (Addr × Obj)} {σ : St} {H : Hp} {s : Shared} {Q : VK} {us : List Value} {vs : List V} (F : FnOk X.prog X.w X.K X.mg X.base CX k f fd ps sp) (hr : Room k X.A) (hb : Binds X.K fd ps ds) (hd : Vals dvs ds) (hx : Passes CX X E)
    (I : Inv X pins σ H s) (r : Vals vs us) (h : sp (vs ++ dvs) H Q E) : wpAny (model X.prog X.w) X.A (call (.ref f) us) (EP X pins σ Q) X.xe s := by
  have r2 : Vals (vs ++ dvs) (us ++ ds) := r.append hd
  have hl : (us ++ ds).length = ps.length := by rw [← r2.length]; exact F.len _ _ _ _ h
  refine wpAny_call (codeAny_mono (F.run X.A X.stack s H ⟨us, []⟩ (us ++ ds) (vs ++ dvs) Q E hr I.env0 (hb s us I.kIn hl) r2 h) fun r s' hq => ?_)
  cases r with
  | error e => exact hx pins σ H s e s' I hq
  | ok fl =>
    cases fl with
    | ret u => exact I.after hq
    | next => exact False.elim hq
    | brk => exact False.elim hq
    | cont => exact False.elim hq
theorem pe_call (F : FnOk X.prog X.w X.K X.mg X.base CX k f fd ps sp) (hr : Room k X.A) (hg : Gl X x) (hm : X.mg x = some (.ref f)) (hk : PySem.W.keepIn X.K (.ref f) = true) (hb : Binds X.K fd ps ds) (hd : Vals dvs ds) (hx : Passes CX X E)
    (ha : PA X (e :: es) t) (hdb : (x == ("__debug__" : Str)) = false := by decide) (he : starEach (e :: es) X.env = (false, eval e X.env) :: starEach es X.env := by rfl) (hpl : (backTo pos (starEach es X.env)).any (·.1) = false := by rfl) :
    PE X (.Call (.Name x p) (e :: es) [] pos) (tCall sp dvs E t) := by
  intro pins s σ H Q I h
  refine wpAny_Call_Name_kw (ld_glob I hg hm ?_ hdb)
  refine PySem.W.callWith_K (h₀ := X.base) I.ok.mod.kin hk (thn (ha pos pins s σ H _ I h) fun us s1 ⟨vs, H1, I1, r, q⟩ => ⟨I1.kIn, ?_⟩) he hpl
  exact run_fn F hr hb hd hx I1 r q
theorem pe_meth {pl : Sem Bool} (he : PE X o ta) (c : Cls X.K C) (hm : Meth X.K C m f) (F : FnOk X.prog X.w X.K X.mg X.base CX k f fd ps sp) (hr : Room k X.A) (hb : Binds X.K fd ps ds) (hd : Vals dvs ds) (hx : Passes CX X E) (ha : PA X (e :: es) t)
    (hst : starEach (e :: es) X.env = (false, eval e X.env) :: starEach es X.env := by rfl) (hpl : (backTo pos (starEach es X.env)).any (·.1) = false := by rfl)
    (ht : eval (.Call (.Attribute o m apos) (e :: es) [] pos) X.env = (do
      let ov ← eval o X.env
      standAt apos.atName
      let (f, first) ← holding [ov] (getMethod ov m pl)
      callWith pos f first (backTo pos (starEach (e :: es) X.env)) (backToKw pos (keywordEach [] X.env))) := by rfl) :
    PE X (.Call (.Attribute o m apos) (e :: es) [] pos) (tMeth C m sp dvs E ta t) := by
  intro pins s σ H Q I h
  refine PySem.W.methodCall_KW (pl := pl) (thn (he pins s σ H _ I h) fun u s1 ⟨x, H1, I1, rx, a, dx, fs, ex, ea, l, q⟩ => ?_) ht
  subst ex
  obtain rfl : u = Value.ref a := rx
  refine getmeth_ok I1 ea c hm l ?_
  refine PySem.W.callWith_K (first := [.ref a]) (h₀ := X.base) I.ok.mod.kin hm.kp (thn (ha pos pins s1 σ H1 _ I1 q) fun us s2 ⟨vs, H2, I2, r, q2⟩ => ⟨I2.kIn, ?_⟩) hst hpl
  exact run_fn (us := .ref a :: us) (vs := .ref a :: vs) F hr hb hd hx I2 (.cons rfl r) q2
theorem pe_meth0 {pl : Sem Bool} (he : PE X o ta) (c : Cls X.K C) (hm : Meth X.K C m f) (F : FnOk X.prog X.w X.K X.mg X.base CX k f fd ps sp) (hr : Room k X.A) (hb : Binds X.K fd ps ds) (hd : Vals dvs ds) (hx : Passes CX X E)
    (ht : eval (.Call (.Attribute o m apos) [] [] pos) X.env = (do
      let ov ← eval o X.env
      standAt apos.atName
      let (f, first) ← holding [ov] (getMethod ov m pl)
      callWith pos f first (backTo pos (starEach [] X.env)) (backToKw pos (keywordEach [] X.env))) := by rfl) :
    PE X (.Call (.Attribute o m apos) [] [] pos) (tMeth C m sp dvs E ta tNil) := by
  intro pins s σ H Q I h
  refine PySem.W.methodCall_KW (pl := pl) (thn (he pins s σ H _ I h) fun u s1 ⟨x, H1, I1, rx, a, dx, fs, ex, ea, l, q⟩ => ?_) ht
  subst ex
  obtain rfl : u = Value.ref a := rx
  refine getmeth_ok I1 ea c hm l ?_
  exact PySem.W.callWith_K0 (first := [.ref a]) I1.kIn hm.kp (run_fn (us := [.ref a]) (vs := [.ref a]) F hr hb hd hx I1 (.cons rfl .nil) q)
structure Mk (K : PySem.W.Frag) (C f : Addr) : Prop where
  makes : PySem.W.makesIn K C = true
  init : PySem.W.findIn K (.ref C) "__init__" = some (some (.ref f))
  fn : PySem.W.isFn K (.ref f) = true
  kp : PySem.W.keepIn K (.ref C) = true
theorem run_make {pins : List (Addr × Obj)} {σ : St} {H : Hp} {s : Shared} {Q : VK} {us : List Value} {vs : List V} (M : Mk X.K C f) (F : FnOk X.prog X.w X.K X.mg X.base CX k f fd ps sp) (hr : Room (k + 1) X.A) (hb : Binds X.K fd ps ds) (hd : Vals dvs ds)
    (hx : Passes CX X E) (I : Inv X pins σ H s) (r : Vals vs us)
    (h : ∀ x dx, H x = none → H dx = none → dx ≠ x → sp (.ref x :: (vs ++ dvs)) (upd (upd H dx (.own x)) x (.ins C dx [])) (fun v H2 => v = .non ∧ Q (.ref x) H2) E) :
    wpAny (model X.prog X.w) X.A (call (.ref C) us) (EP X pins σ Q) X.xe s := by
  have hq := h (s.heap.objs.size + 1) s.heap.objs.size (I.hok.fresh (Nat.le_succ _)) (I.hok.fresh (Nat.le_refl _)) (Nat.ne_of_lt (Nat.lt_succ_self _))
  have I2 := Inv.made (C := C) I
  have r2 : Vals (V.ref (s.heap.objs.size + 1) :: (vs ++ dvs)) (Value.ref (s.heap.objs.size + 1) :: (us ++ ds)) := .cons rfl (r.append hd)
  have hl : (Value.ref (s.heap.objs.size + 1) :: us ++ ds).length = ps.length := by
    have e := r2.length
    rw [F.len _ _ _ _ hq] at e
    exact e.symm
  refine wpAny_call (make_map (f := f) I.kIn M.makes M.init (beq_iff_eq.mp M.fn) (codeAny_mono (F.run _ X.stack _ _ ⟨Value.ref (s.heap.objs.size + 1) :: us, []⟩ (Value.ref (s.heap.objs.size + 1) :: (us ++ ds)) _ _ E (hr.make C us [])
    (I2.env0.make C us []) (hb _ (Value.ref (s.heap.objs.size + 1) :: us) I2.kIn hl) r2 hq) fun r s' hq' => ?_))
  cases r with
  | error e => exact hx pins σ _ _ e s' I2 hq'
  | ok fl =>
    cases fl with
    | ret u =>
      obtain ⟨v, H', I3, rv, ev, q3⟩ := I2.after hq'
      subst ev
      exact ⟨rv, ⟨V.ref (s.heap.objs.size + 1), H', I3, rfl, q3⟩⟩
    | next => exact False.elim hq'
    | brk => exact False.elim hq'
    | cont => exact False.elim hq'
theorem pe_make (M : Mk X.K C f) (F : FnOk X.prog X.w X.K X.mg X.base CX k f fd ps sp) (hr : Room (k + 1) X.A) (hg : Gl X x) (hm : X.mg x = some (.ref C)) (hb : Binds X.K fd ps ds) (hd : Vals dvs ds) (hx : Passes CX X E)
    (ha : PA X (e :: es) t) (hdb : (x == ("__debug__" : Str)) = false := by decide) (he : starEach (e :: es) X.env = (false, eval e X.env) :: starEach es X.env := by rfl) (hpl : (backTo pos (starEach es X.env)).any (·.1) = false := by rfl) :
    PE X (.Call (.Name x p) (e :: es) [] pos) (tMake C sp dvs E t) := by
  intro pins s σ H Q I h
  refine wpAny_Call_Name_kw (ld_glob I hg hm ?_ hdb)
  refine PySem.W.callWith_K (h₀ := X.base) I.ok.mod.kin M.kp (thn (ha pos pins s σ H _ I h) fun us s1 ⟨vs, H1, I1, r, q⟩ => ⟨I1.kIn, ?_⟩) he hpl
  exact run_make M F hr hb hd hx I1 r q
end
def PK (X : Cx) (kws : List Keyword) (t : TA) : Prop :=
  ∀ (pos : Pos) (pins : List (Addr × Obj)) (s : Shared) (σ : St) (H : Hp) (Q : List V → Hp → Prop), Inv X pins σ H s → t σ H Q → wpAny (model X.prog X.w) X.A (evalAll ((backToKw pos (keywordEach kws X.env)).map (·.2))) (AP X pins σ Q) X.xe s
section
variable {X : Cx} {CX : CXT} {k : Nat} {f C : Addr} {fd : FuncData} {ps ks : List Str} {sp : Sp} {E : XK} {x m : Str} {p pos apos kpos : Pos} {e o : Expr} {es : List Expr} {kws : List Keyword} {te ta : TE} {t tk : TA} {nm : Option Str}
theorem pk_nil : PK X [] tNil := fun _ _ _ _ H Q I h => wpAny_evalAll_nil ⟨[], H, I, .nil, h⟩
theorem pk_cons (ha : PE X e te) (hr : PK X kws t) : PK X (⟨nm, e, kpos⟩ :: kws) (tCons te t) := by
  intro pos pins s σ H Q I h
  show wpAny _ _ (evalAll ((do let v ← eval e X.env; standAt pos; pure v) :: (backToKw pos (keywordEach kws X.env)).map (·.2))) _ _ s
  refine wpAny_evalAll_cons (wpAny_bind (thn (ha pins s σ H _ I h) fun u s1 ⟨x, H1, I1, r1, q1⟩ => wpAny_bind (wpAny_standAt (wpAny_pure ?_))))
  exact thn (hr pos pins s1 σ H1 _ I1 q1) fun us s2 ⟨xs, H2, I2, r2, q2⟩ => ⟨x :: xs, H2, I2, .cons r1 r2, q2⟩
variable {g : List Value → List Value → List Value} {gV : List V → List V → List V}
end
structure FnScope (N P : List Str) (sc : Scope) : Prop where
  kind : sc.kind = .function
  co : sc.isCoroutine = false
  gen : sc.isGenerator = false
  nd : N.Nodup
  pre : N.take P.length = P
  par : ∀ x ∈ P, sc.names.lookup x = some .local ∨ sc.names.lookup x = some .cell
  nofree : ∀ y ∈ sc.names, y.2 ≠ .free
theorem bindL_out {kindOf : Str → Option NameKind} {x : Str} : ∀ {binds : List (Str × Value)} {m : Str → Option Value}, (∀ v, (x, v) ∉ binds) → bindL kindOf binds m x = m x
  | [], _, _ => rfl
  | (n, v) :: r, m, h => by
    unfold bindL
    rw [bindL_out fun w hw => h w (List.mem_cons_of_mem _ hw)]
    split
    · have : x ≠ n := by rintro rfl; exact h v List.mem_cons_self
      simp [this]
    · rfl
theorem bindC_out {kindOf : Str → Option NameKind} {x : Str} : ∀ {binds : List (Str × Value)} {m : Str → Option Value}, (∀ v, (x, v) ∉ binds) → bindC kindOf binds m x = m x
  | [], _, _ => rfl
  | (n, v) :: r, m, h => by
    unfold bindC
    rw [bindC_out fun w hw => h w (List.mem_cons_of_mem _ hw)]
    split
    · rfl
    · have : x ≠ n := by rintro rfl; exact h v List.mem_cons_self
      simp [this]
theorem bindL_get {kindOf : Str → Option NameKind} {x : Str} {v : Value} : ∀ {P : List Str} {vs : List Value} {i : Nat} {m : Str → Option Value}, P.Nodup → P[i]? = some x → vs[i]? = some v → kindOf x = some .local →
    bindL kindOf (P.zip vs) m x = some v
  | [], _, _, _, _, h, _, _ => by simp at h
  | _ :: _, [], _, _, _, _, h, _ => by simp at h
  | p :: P, w :: vs, 0, m, nd, h1, h2, hk => by
    simp at h1 h2; subst h1; subst h2
    show bindL kindOf ((p, w) :: P.zip vs) m p = _
    unfold bindL
    rw [bindL_out fun v hv => (List.nodup_cons.mp nd).1 (List.of_mem_zip hv).1, if_pos hk]
    simp
  | p :: P, w :: vs, i + 1, m, nd, h1, h2, hk => by
    show bindL kindOf ((p, w) :: P.zip vs) m x = _
    unfold bindL
    exact bindL_get (i := i) (List.nodup_cons.mp nd).2 (by simpa using h1) (by simpa using h2) hk
theorem bindC_get {kindOf : Str → Option NameKind} {x : Str} {v : Value} : ∀ {P : List Str} {vs : List Value} {i : Nat} {m : Str → Option Value}, P.Nodup → P[i]? = some x → vs[i]? = some v → kindOf x ≠ some .local →
    bindC kindOf (P.zip vs) m x = some v
  | [], _, _, _, _, h, _, _ => by simp at h
  | _ :: _, [], _, _, _, _, h, _ => by simp at h
  | p :: P, w :: vs, 0, m, nd, h1, h2, hk => by
    simp at h1 h2; subst h1; subst h2
    show bindC kindOf ((p, w) :: P.zip vs) m p = _
    unfold bindC
    rw [bindC_out fun v hv => (List.nodup_cons.mp nd).1 (List.of_mem_zip hv).1, if_neg hk]
    simp
  | p :: P, w :: vs, i + 1, m, nd, h1, h2, hk => by
    show bindC kindOf ((p, w) :: P.zip vs) m x = _
    unfold bindC
    exact bindC_get (i := i) (List.nodup_cons.mp nd).2 (by simpa using h1) (by simpa using h2) hk
def start (N : List Str) (vs : List V) : St := vs.map some ++ List.replicate (N.length - vs.length) none
def cxOf (CX : CXT) (P : Program) (w : World) (K : PySem.W.Frag) (mg : Str → Option Value) (base : Heap) (N : List Str) (qual : Str) (scope : Scope) (f : Addr) (cd : Value) (A : Around) (outer : List Env) (s : Shared) (H : Hp) (E : XK) : Cx where
  prog := P
  w := w
  K := K
  mg := mg
  base := base
  A := A.deeper (envOfC qual scope s.heap.objs.size f cd)
  N := N
  s_0 := s
  H_0 := H
  env := envOfC qual scope s.heap.objs.size f cd
  outer := outer
  stack := envOfC qual scope s.heap.objs.size f cd :: outer
  ex := []
  calm := true
  fn := fun _ => true
  pn := []
  xe := fun e s' => wpAny (model P w) (A.deeper (envOfC qual scope s.heap.objs.size f cd)) (leaving (envOfC qual scope s.heap.objs.size f cd) e) (fun _ s'' => CX outer H s E e s'') (fun e' s'' => CX outer H s E e' s'') s'
theorem cell_has {sc : Scope} {n : Nat} {x : Str} (h : sc.names.lookup x = some .cell) : ∃ c, (cellsFrom n sc.names []).lookup x = some c := by
  have q := PySem.W.cellsFrom_some sc.names n [] (.inl h)
  exact Option.isSome_iff_exists.mp q
theorem inv_start {CX : CXT} {P : Program} {w : World} {K : PySem.W.Frag} {mg : Str → Option Value} {base : Heap} {N ps : List Str} {qual : Str} {scope : Scope} {f : Addr} {cd : Value} {A : Around} {outer : List Env} {s s1 : Shared} {H : Hp} {E : XK} {us : List Value} {vs : List V}
    (S : FnScope N ps scope) (hd : A.handled = none) (e0 : Env0 P w K mg base A outer s H) (hl : vs.length = ps.length) (r : Vals vs us)
    (x : InCallC s s.heap.objs.size (bindL (envOfC qual scope s.heap.objs.size f cd).kindOf (ps.zip us) fun _ => none) (cellsFrom (s.heap.objs.size + 1) scope.names []) (bindC (envOfC qual scope s.heap.objs.size f cd).kindOf (ps.zip us) fun _ => none) s1) :
    Inv (cxOf CX P w K mg base N qual scope f cd A outer s H E) [] (start N vs) H s1 := by
  have hpl : ps.length ≤ N.length := by have := congrArg List.length S.pre; rw [List.length_take] at this; omega
  obtain ⟨h1, tk, rfl, hk⟩ := x.done
  have noA : ∀ b : Addr, b ∉ (cxOf CX P w K mg base N qual scope f cd A outer s H E).ex := fun b z => absurd (show b ∈ ([] : List Addr) from z) (by simp)
  refine ⟨⟨e0.mod, S.kind, rfl, rfl, Nat.le_refl _, fun y z c h1 h2 => ?_, fun y hy => ?_, fun y c _ h => ?_, fun _ => hd, Around.frames_deeper e0.frames, .inr ⟨rfl, rfl⟩, fun b z => absurd z (noA b), e0.bs, e0.bsz, fun b _ _ => noA b, fun b z => absurd z (noA b), e0.funs, e0.frf⟩,
    rfl, e0.bare, Un.kept hk, ⟨_, x.toInCall.ns, fun i y v h1 h2 h3 => ?_⟩, fun y c h => ⟨_, x.cell y c h⟩, e0.hok.fresh (Nat.le_refl _), fun y c h => ?_, fun p hp => absurd (show p ∈ ([] : List (Addr × Obj)) from hp) (by simp), e0.hok.kept hk, ?_⟩
  · exact name_of_addr x.apart (PySem.mem_of_lookup h1) (PySem.mem_of_lookup h2)
  · have hy : scope.names.lookup y = some .cell ∨ scope.names.lookup y = some .free := hy
    rcases hy with hy | hy
    · exact cell_has hy
    · exact absurd rfl (S.nofree _ (PySem.mem_of_lookup hy))
  · exact Nat.le_of_lt (x.above y c (PySem.mem_of_lookup h))
  · have hi : i < vs.length := by
      unfold start at h2
      by_cases hi : i < vs.length
      · exact hi
      · rw [List.getElem?_append_right (by simpa using hi)] at h2
        rw [List.getElem?_replicate] at h2
        split at h2 <;> cases h2
    have ha : vs[i]? = some v := by
      unfold start at h2
      rw [List.getElem?_append_left (by simpa using hi), List.getElem?_map] at h2
      cases e : vs[i]? with
      | none => rw [e] at h2; cases h2
      | some a => rw [e] at h2; cases h2; rfl
    obtain ⟨u, hu, rv⟩ := r.get ha
    have hp : ps[i]? = some y := by
      rw [← S.pre, List.getElem?_take_of_lt (by omega)]; exact h1
    have ndP : ps.Nodup := by rw [← S.pre]; exact S.nd.sublist (List.take_sublist _ _)
    refine ⟨u, rv, ?_⟩
    rcases S.par y (List.mem_of_getElem? hp) with k | k
    · exact .inl ⟨k, bindL_get ndP hp hu k⟩
    · obtain ⟨c, e⟩ := cell_has (n := s.heap.objs.size + 1) k
      refine .inr ⟨.inl k, c, e, ?_⟩
      have q := x.cell y c e
      rw [bindC_get ndP hp hu (by show scope.names.lookup y ≠ _; rw [k]; decide)] at q
      exact q
  · exact e0.hok.fresh (Nat.le_of_lt (x.above y c (PySem.mem_of_lookup h)))
  · unfold start
    show _ = N.length
    rw [List.length_append, List.length_map, List.length_replicate]
    omega
theorem fn_of {CX : CXT} {P : Program} {w : World} {K : PySem.W.Frag} {mg : Str → Option Value} {base : Heap} {k : Nat} {f : Addr} {name qual : Str} {params : Arguments} {body : List Stmt} {scope : Scope} {dV kV doc pm cdv ct oc : Value} {an od : Option Addr}
    {osl : Array (Option Value)} {N ps : List Str} {sp : Sp} (lk : K.lookup f = some ⟨oc, od, .func (PySem.W.fnOf name qual params body scope dV kV doc pm an cdv ct), osl⟩) (hcd : PySem.W.codeIn K cdv qual = true) (S : FnScope N ps scope)
    (len : ∀ vs H Q E, sp vs H Q E → vs.length = ps.length)
    (hbody : ∀ (A : Around) (outer : List Env) (s : Shared) (H : Hp) (vs : List V) (Q : VK) (E : XK), Room k (A.deeper (envOfC qual scope s.heap.objs.size f cdv)) → sp vs H Q E →
      ∃ t, PSs (cxOf CX P w K mg base N qual scope f cdv A outer s H E) body t ∧ t { nx := fun _ H' => Q .non H', rt := Q } (start N vs) H) :
    FnOk P w K mg base CX (k + 1) f (PySem.W.fnOf name qual params body scope dV kV doc pm an cdv ct) ps sp := by
  refine ⟨len, fun A outer s H args us vs Q E hr e0 hb r hsp => ?_⟩
  have hl := len _ _ _ _ hsp
  have KX : K.In s.heap := e0.mod.kin.keeps fun b o e => (e0.bs b o e).1
  have lim : s.heap.NoLimit := e0.mod.nolimit.keeps fun b o e => (e0.bs b o e).1
  have hkind : ∀ y ∈ ps.zip us, scope.names.lookup y.1 = some .local ∨ (scope.names.lookup y.1 = some .cell ∧ ((cellsFrom (s.heap.objs.size + 1) scope.names []).lookup y.1).isSome = true) := fun ⟨n, v⟩ hy => by
    rcases S.par n (List.of_mem_zip hy).1 with q | q
    · exact .inl q
    · exact .inr ⟨q, PySem.W.cellsFrom_some _ _ _ (.inl q)⟩
  refine codeAny_call_function hr.depth (KX _ _ lk) rfl S.co S.gen rfl (PySem.W.codeRec_of KX hcd) (hb _ _ _ _ ?_)
  refine wpAny_newFunctionEnv_cells S.kind hkind fun env he s1 x => ?_
  subst he
  refine ⟨lim.keeps x.toInCall.keep, codeAny_func ?_⟩
  obtain ⟨t, ht, hq⟩ := hbody A outer s H vs Q E (hr.deeper _) hsp
  have I : Inv (cxOf CX P w K mg base N qual scope f cdv A outer s H E) [] (start N vs) H s1 := inv_start S hr.hd e0 hl r x
  refine wpAny_mono (ht [] s1 (start N vs) H _ I hq) (fun fl s' hs => ?_) fun e s' hs => hs
  have fin : ∀ {σ' : St} {H' : Hp} {v : V} {u : Value}, Inv (cxOf CX P w K mg base N qual scope f cdv A outer s H E) [] σ' H' s' → RelV v u → Q v H' → CE outer P w H s Q u s' :=
    fun {σ' H' v u} J rv q => ⟨v, H', J.os, J.bare, J.base, J.hok, rv, q⟩
  cases fl with
  | ret u =>
    obtain ⟨v, σ', H', J, rv, q⟩ := hs
    exact fin J rv q
  | next =>
    obtain ⟨σ', H', J, q⟩ := hs
    exact fin (v := V.non) (u := Value.none) J rfl q
  | brk =>
    obtain ⟨_, _, _, q⟩ := hs
    exact False.elim q
  | cont =>
    obtain ⟨_, _, _, q⟩ := hs
    exact False.elim q
end L2
namespace L2
open PySem PySem.Spec PyProof.Rows
section
variable {X : Cx} {x : Str} {p pos : Pos} {e : Expr} {es : List Expr} {t : TA} {id T : String} {r : List V → Hp → VK → Prop}
def tCB (r : List V → Hp → VK → Prop) (t : TA) : TE := fun σ H Q => t σ H fun vs H1 => r vs H1 Q
theorem pe_callB (hc : CallR X (.builtin id) r) (hg : Gl X x) (hm : X.mg x = none) (hv : bootBuiltins x = some (.builtin id)) (ha : PA X (e :: es) t) (hn : x ≠ "__name__" := by decide) (hdb : (x == ("__debug__" : Str)) = false := by decide)
    (he : starEach (e :: es) X.env = (false, eval e X.env) :: starEach es X.env := by rfl) (hpl : (backTo pos (starEach es X.env)).any (·.1) = false := by rfl) : PE X (.Call (.Name x p) (e :: es) [] pos) (tCB r t) := by
  intro pins s σ H Q I h
  refine wpAny_Call_Name_kw (ld_blt I hg hm hv ?_ hn hdb)
  exact PyProof.Rows.callWith_builtin1 (thn (ha pos pins s σ H _ I h) fun us s1 ⟨vs, H1, I1, r1, q1⟩ => hc pins s1 σ H1 vs us Q I1 r1 q1) he hpl
theorem pe_callTy (hc : CallR X (.type T) r) (hg : Gl X x) (hm : X.mg x = none) (hv : bootBuiltins x = some (.type T)) (ha : PA X (e :: es) t) (hn : x ≠ "__name__" := by decide) (hdb : (x == ("__debug__" : Str)) = false := by decide)
    (he : starEach (e :: es) X.env = (false, eval e X.env) :: starEach es X.env := by rfl) (hpl : (backTo pos (starEach es X.env)).any (·.1) = false := by rfl) : PE X (.Call (.Name x p) (e :: es) [] pos) (tCB r t) := by
  intro pins s σ H Q I h
  refine wpAny_Call_Name_kw (ld_blt I hg hm hv ?_ hn hdb)
  exact PyProof.Rows.callWith_type1 (thn (ha pos pins s σ H _ I h) fun us s1 ⟨vs, H1, I1, r1, q1⟩ => hc pins s1 σ H1 vs us Q I1 r1 q1) he hpl
end
end L2
namespace HT
open PySem PyProof.Rows
section
open PySem.SeqAt
open PySem.AutoSeq1 (wpAny_loadPart')
open PySem.MeetsSeq PySem.MeetsSeq2 PySem.MeetsSeq3
end
section
variable {prog : Program} {w : World} {A : Around} {E : Value → Shared → Prop} {s : Shared}
def sIx (n d : Nat) : Option Int → Nat
  | none => d
  | some v => if v < 0 then (v + (n : Int)).toNat else min v.toNat n
theorem sIx_none (n d : Nat) : sIx n d none = d := rfl
theorem sIx_nat (n d k : Nat) : sIx n d (some (k : Int)) = min k n := by
  show (if (k : Int) < 0 then ((k : Int) + (n : Int)).toNat else min (k : Int).toNat n) = min k n
  rw [if_neg (by omega), Int.toNat_natCast]
end
end HT
namespace L2
open PySem PySem.Spec PyProof.Rows
abbrev TO := St → Hp → (Option Int → Hp → Prop) → Prop
def PO (X : Cx) (e : Option Expr) (t : TO) : Prop :=
  ∀ (pins : List (Addr × Obj)) (s : Shared) (σ : St) (H : Hp) (Q : Option Int → Hp → Prop), Inv X pins σ H s → t σ H Q →
    wpAny (model X.prog X.w) X.A (evalPart e X.env) (fun u s' => ∃ o H', Inv X pins σ H' s' ∧ IsPart u o ∧ Q o H') X.xe s
def tNoPart : TO := fun _ H Q => Q none H
def tPart (t : TE) : TO := fun σ H Q => t σ H fun x H1 => ∃ i, x = .int i ∧ Q (some i) H1
section
variable {X : Cx} {e : Expr} {te : TE} {lo hi : Option Expr} {tl th : TO} {pos p2 : Pos}
theorem po_none : PO X none tNoPart := by
  intro pins s σ H Q I h
  rw [evalPart_none]
  exact wpAny_pure ⟨none, H, I, .none, h⟩
theorem po_some (h : PE X e te) : PO X (some e) (tPart te) := by
  intro pins s σ H Q I hw
  rw [evalPart_some]
  refine thn (h pins s σ H _ I hw) fun u s1 ⟨x, H1, I1, r1, q1⟩ => ?_
  obtain ⟨i, rfl, q⟩ := q1
  obtain ⟨t, rfl⟩ := r1
  exact ⟨some i, H1, I1, .int i t, q⟩
def SlR (X : Cx) (r : V → Option Int → Option Int → Hp → VK → Prop) : Prop :=
  ∀ (pins : List (Addr × Obj)) (s : Shared) (σ : St) (H : Hp) (x : V) (v vl vu : Value) (lo hi : Option Int) (sl : Addr) (Q : VK), Inv X pins σ H s → RelV x v → s.heap.IsSliceOf sl vl vu .none → IsPart vl lo → IsPart vu hi → r x lo hi H Q →
    ∃ T id, typeLookup (.type T) "__getitem__" = pure (some (.builtin id)) ∧ s.TypeIs v T ∧ wpAny (model X.prog X.w) X.A (getItem v (.ref sl)) (EP X pins σ Q) X.xe s
def tSl (r : V → Option Int → Option Int → Hp → VK → Prop) (te : TE) (tl th : TO) : TE := fun σ H Q => te σ H fun x H1 => tl σ H1 fun l H2 => th σ H2 fun u H3 => r x l u H3 Q
theorem pe_slice {r : V → Option Int → Option Int → Hp → VK → Prop} (hr : SlR X r) (he : PE X e te) (hl : PO X lo tl) (hu : PO X hi th) : PE X (.Subscript e (.Slice lo hi none p2) pos) (tSl r te tl th) := by
  intro pins s σ H Q I h
  refine Subscript_ (thn (he pins s σ H _ I h) fun v s1 ⟨x, H1, I1, r1, q1⟩ => ?_)
  refine wpAny_Slice (thn (hl pins s1 σ H1 _ I1 q1) fun vl s2 ⟨l, H2, I2, pl, q2⟩ => thn (hu pins s2 σ H2 _ I2 q2) fun vu s3 ⟨u, H3, I3, pu, q3⟩ => ?_)
  rw [evalPart_none]
  refine wpAny_pure ?_
  have I4 : Inv X pins σ H3 { s3 with heap := s3.heap.push { cls := .type "slice", data := .fields #[vl, vu, .none] } } := I3.kept (t' := s3.toks) fun b ob q => Heap.get?_push_of_some _ q
  obtain ⟨T, id, hT, ht, hg⟩ := hr pins { s3 with heap := s3.heap.push { cls := .type "slice", data := .fields #[vl, vu, .none] } } σ H3 x v vl vu l u s3.heap.objs.size Q I4 r1 (Heap.IsSliceOf.new ..) pl pu q3
  show wpAny (model X.prog X.w) X.A (subscriptTail e (.Slice lo hi none p2) v (.ref s3.heap.objs.size)) (EP X pins σ Q) X.xe { s3 with heap := s3.heap.push { cls := .type "slice", data := .fields #[vl, vu, .none] } }
  exact tail_any (ops := [.ref s3.heap.objs.size, v]) ht hT hg (by with_unfolding_all rfl)
def cutV (xs : List V) (lo hi : Option Int) : List V := (xs.drop (HT.sIx xs.length 0 lo)).take (HT.sIx xs.length xs.length hi - HT.sIx xs.length 0 lo)
theorem cutV_length (xs : List V) (lo hi : Option Int) : (cutV xs lo hi).length ≤ xs.length := by
  unfold cutV
  rw [List.length_take, List.length_drop]
  omega
end
end L2
namespace L2
open PySem PySem.Spec PyProof.Rows
def ixN (n : Nat) (i : Int) : Option Nat := if 0 ≤ i then (if i < n then some i.toNat else none) else if -(n : Int) ≤ i then some (i + n).toNat else none
def atI {α : Type} (xs : List α) (i : Int) : Option α := (ixN xs.length i).bind fun j => xs[j]?
theorem ixN_seq {n : Nat} {i : Int} {j : Nat} (h : ixN n i = some j) : seqIndex? i n = some j ∧ j < n ∧ -(n : Int) ≤ i ∧ i < n := by
  unfold ixN at h
  by_cases h0 : 0 ≤ i
  · rw [if_pos h0] at h
    by_cases h1 : i < n
    · rw [if_pos h1] at h
      have e : i.toNat = j := Option.some.inj h
      exact ⟨by rw [seqIndex_of h0 h1, e], by omega, by omega, h1⟩
    · rw [if_neg h1] at h; cases h
  · rw [if_neg h0] at h
    by_cases h1 : -(n : Int) ≤ i
    · rw [if_pos h1] at h
      have e : (i + n).toNat = j := Option.some.inj h
      exact ⟨by rw [seqIndex_neg (by omega) h1, e], by omega, h1, by omega⟩
    · rw [if_neg h1] at h; cases h
theorem atI_get {α : Type} {xs : List α} {i : Int} {v : α} (h : atI xs i = some v) : ∃ j, seqIndex? i xs.length = some j ∧ xs[j]? = some v ∧ j < xs.length ∧ -(xs.length : Int) ≤ i ∧ i < xs.length := by
  unfold atI at h
  cases e : ixN xs.length i with
  | none => rw [e] at h; cases h
  | some j =>
    rw [e] at h
    obtain ⟨h1, h2, h3, h4⟩ := ixN_seq e
    exact ⟨j, h1, h, h2, h3, h4⟩
theorem atI_nat {α : Type} {xs : List α} {j : Nat} {v : α} (h : xs[j]? = some v) : atI xs (j : Int) = some v := by
  have hj : j < xs.length := (List.getElem?_eq_some_iff.mp h).1
  have e : ixN xs.length (j : Int) = some j := by
    unfold ixN
    rw [if_pos (by omega), if_pos (by omega)]; simp
  unfold atI; rw [e]; exact h
def PlainIx (b : Expr) : Prop := ∀ o i, subscripted b false o i = operate [o, i] (getItem o i)
def IxR (X : Cx) (r : R2) : Prop :=
  ∀ (value slice : Expr) (pins : List (Addr × Obj)) (s : Shared) (σ : St) (H : Hp) (x y : V) (v u : Value) (Q : VK), Inv X pins σ H s → RelV x v → RelV y u → r x y H Q →
    subscripted slice false v u = operate [v, u] (getItem v u) → wpAny (model X.prog X.w) X.A (subscriptTail value slice v u) (EP X pins σ Q) X.xe s
def MtR (X : Cx) (id : String) (r : V → List V → Hp → VK → Prop) : Prop :=
  ∀ (pins : List (Addr × Obj)) (s : Shared) (σ : St) (H : Hp) (x : V) (xs : List V) (v : Value) (us : List Value) (Q : VK), Inv X pins σ H s → RelV x v → Vals xs us → r x xs H Q →
    wpAny (model X.prog X.w) X.A (call (.builtin id) (v :: us)) (EP X pins σ Q) X.xe s
section
variable {X : Cx} {a b : Expr} {ta tb : TE} {pos : Pos}
theorem pe_ix {r : R2} (hr : IxR X r) (ha : PE X a ta) (hb : PE X b tb) (hs : PlainIx b) : PE X (.Subscript a b pos) (tOp r ta tb) := by
  intro pins s σ H Q I h
  exact Subscript_ (binT ha hb I h fun v u s2 x y H2 I2 rx ry q => hr a b pins s2 σ H2 x y v u Q I2 rx ry q (hs _ _))
def rIxL (K : PySem.W.Frag) : R2 := fun x y H Q => ∃ p xs i v, x = .ref p ∧ y = .int i ∧ SqL K H p xs ∧ atI xs i = some v ∧ Q v H
def rIxT (K : PySem.W.Frag) : R2 := fun x y H Q => ∃ p xs i v, x = .ref p ∧ y = .int i ∧ SqT K H p xs ∧ atI xs i = some v ∧ Q v H
theorem ix_list : IxR X (rIxL X.K) := by
  intro value slice pins s σ H x y v u Q I rx ry h hs
  obtain ⟨p, xs, i, z, rfl, rfl, hq, he, q⟩ := h
  cases rx
  obtain ⟨t, rfl⟩ := ry
  obtain ⟨its, r, pl, hz⟩ := I.list hq
  obtain ⟨j, h1, h2, h3, h4, h5⟩ := atI_get he
  obtain ⟨w, ew, rw'⟩ := r.get h2
  have hl := r.length
  have hn := line63
  have fin : EP X pins σ Q w s := ⟨z, H, I, rw', q⟩
  by_cases h0 : 0 ≤ i
  · have hj : i.toNat = j := by
      rw [seqIndex_of h0 h5] at h1
      exact Option.some.inj h1
    exact item_listR pl.isList h0 (by omega) (by rw [hj]; simpa using ew) fin hs
  · have hj : (i + (its.toArray.size : Int)).toNat = j := by
      rw [seqIndex_neg (by omega) h4] at h1
      rw [List.size_toArray, ← hl]
      exact Option.some.inj h1
    exact subscriptTail_builtinR (x := w) pl.isList.typeIs slot_list_getitem.lookup
      (wpAny_getItem_list_neg (Q := fun r s' => r = w ∧ EP X pins σ Q r s') pl.isList (by omega) (by rw [List.size_toArray] <;> omega) (by omega) (by rw [hj]; simpa using ew) ⟨rfl, fin⟩) hs
theorem ix_tup : IxR X (rIxT X.K) := by
  intro value slice pins s σ H x y v u Q I rx ry h hs
  obtain ⟨p, xs, i, z, rfl, rfl, hq, he, q⟩ := h
  cases rx
  obtain ⟨t, rfl⟩ := ry
  obtain ⟨its, r, pl, hz⟩ := I.tuple hq
  obtain ⟨j, h1, h2, h3, h4, h5⟩ := atI_get he
  obtain ⟨w, ew, rw'⟩ := r.get h2
  have hl := r.length
  have hn := line63
  have fin : EP X pins σ Q w s := ⟨z, H, I, rw', q⟩
  exact subscriptTail_builtinR (x := w) pl.typeIs slot_tuple_getitem.lookup
    (getItem_tuple (j := j) (Q := fun r s' => r = w ∧ EP X pins σ Q r s') pl (by omega) (by omega) (by rw [List.size_toArray, ← hl]; exact h1) (by simpa using ew) ⟨rfl, fin⟩) hs
theorem slice_bounds (lo hi : Option Int) (n : Nat) : (sliceBounds lo hi none n).1 = ((HT.sIx n 0 lo : Nat) : Int) ∧ (sliceBounds lo hi none n).2.1 = ((HT.sIx n n hi : Nat) : Int) ∧ (sliceBounds lo hi none n).2.2 = 1 := by
  refine ⟨?_, ?_, rfl⟩
  · cases lo with
    | none => simp [sliceBounds, HT.sIx]
    | some i =>
      simp only [sliceBounds, HT.sIx, Option.getD_none, show (1 : Int) > 0 by decide, if_true]
      by_cases h : i < 0
      · simp only [h, if_true] <;> omega
      · simp only [h, if_false] <;> omega
  · cases hi with
    | none => simp [sliceBounds, HT.sIx]
    | some i =>
      simp only [sliceBounds, HT.sIx, Option.getD_none, show (1 : Int) > 0 by decide, if_true]
      by_cases h : i < 0
      · simp only [h, if_true] <;> omega
      · simp only [h, if_false] <;> omega
theorem slicePick_cut (its : List Value) (lo hi : Option Int) : slicePick its.toArray lo hi none = ((its.drop (HT.sIx its.length 0 lo)).take (HT.sIx its.length its.length hi - HT.sIx its.length 0 lo)).toArray := by
  obtain ⟨h1, h2, h3⟩ := slice_bounds lo hi its.toArray.size
  unfold slicePick
  rw [h1, h2, h3]
  simp only [sliceRange_one, pick_run, List.size_toArray] <;> rfl
def rSlL (K : PySem.W.Frag) : V → Option Int → Option Int → Hp → VK → Prop := fun x lo hi H Q => ∃ a xs, x = .ref a ∧ SqL K H a xs ∧ ∀ p, H p = none → Q (.ref p) (upd H p (.lst (cutV xs lo hi)))
theorem sl_list : SlR X (rSlL X.K) := by
  intro pins s σ H x v vl vu lo hi sl Q I rx hs pl pu h
  obtain ⟨a, xs, rfl, hx, q⟩ := h
  cases rx
  obtain ⟨its, r, ht, hz⟩ := I.list hx
  have hlen := r.length
  refine ⟨"list", _, slot_list_getitem.lookup, ht.isList.typeIs, ?_⟩
  refine wpAny_getItem_list_slice ht.isList hs pl pu .none (by simp) ?_ (by rw [List.size_toArray] <;> omega)
  rw [slicePick_cut, ← hlen]
  refine ⟨.ref s.heap.objs.size, _, I.laid (t' := s.toks) (o := .lst (cutV xs lo hi)) (fun b ob q => Heap.get?_push_of_some _ q) (Nat.le_refl _) ?_, rfl, q _ (I.hok.fresh (Nat.le_refl _))⟩
  exact ⟨Nat.le_trans (cutV_length xs lo hi) hz, _, 0, (r.drop (HT.sIx xs.length 0 lo)).take (HT.sIx xs.length xs.length hi - HT.sIx xs.length 0 lo), Heap.get?_push_size _ rfl⟩
def flatV : V → Bool
  | .non => true
  | .bl _ => true
  | .int _ => true
  | .str _ => true
  | _ => false
def eqV : V → V → Bool
  | .non, .non => true
  | .bl a, .bl b => a == b
  | .bl a, .int b => (if a then 1 else 0) == b
  | .int a, .bl b => a == (if b then 1 else 0)
  | .int a, .int b => a == b
  | .str a, .str b => a == b
  | _, _ => false
theorem eqAt_V {A : Around} {s : Shared} {y x : V} {u v : Value} (ry : RelV y u) (rx : RelV x v) (fy : flatV y = true) (fx : flatV x = true) : SeqAt.EqAt A s u v (eqV y x) := by
  cases y with
  | non =>
    cases ry
    cases x with
    | non => cases rx; exact SeqAt.EqAt.same _
    | bl b => cases rx; exact SeqAt.EqAt.none_bool b
    | int b => obtain ⟨t, rfl⟩ := rx; exact SeqAt.EqAt.none_int b t
    | str b => obtain ⟨t, rfl⟩ := rx; exact SeqAt.EqAt.none_str b t
    | _ => exact absurd (show false = true from fx) Bool.false_ne_true
  | bl a =>
    cases ry
    cases x with
    | non => cases rx; exact SeqAt.EqAt.bool_none a
    | bl b => cases rx; exact SeqAt.EqAt.bool_bool a b
    | int b => obtain ⟨t, rfl⟩ := rx; exact SeqAt.EqAt.bool_int a b t
    | str b => obtain ⟨t, rfl⟩ := rx; exact SeqAt.EqAt.bool_str a b t
    | _ => exact absurd (show false = true from fx) Bool.false_ne_true
  | int a =>
    obtain ⟨t', rfl⟩ := ry
    cases x with
    | non => cases rx; exact SeqAt.EqAt.int_none a t'
    | bl b => cases rx; exact SeqAt.EqAt.int_bool a t' b
    | int b => obtain ⟨t, rfl⟩ := rx; exact SeqAt.EqAt.int_int a t' b t
    | str b => obtain ⟨t, rfl⟩ := rx; exact SeqAt.EqAt.int_str a t' b t
    | _ => exact absurd (show false = true from fx) Bool.false_ne_true
  | str a =>
    obtain ⟨t', rfl⟩ := ry
    cases x with
    | non => cases rx; exact SeqAt.EqAt.str_none a t'
    | bl b => cases rx; exact SeqAt.EqAt.str_bool a t' b
    | int b => obtain ⟨t, rfl⟩ := rx; exact SeqAt.EqAt.str_int a t' b t
    | str b => obtain ⟨t, rfl⟩ := rx; exact SeqAt.EqAt.str_str a t' b t
    | _ => exact absurd (show false = true from fx) Bool.false_ne_true
  | _ => exact absurd (show false = true from fy) Bool.false_ne_true
def eqU (x : V) (u : Value) : Bool := match u with
  | .none => eqV .non x
  | .bool b => eqV (.bl b) x
  | .int i _ => eqV (.int i) x
  | .str z _ => eqV (.str z) x
  | _ => false
theorem eqU_of {x y : V} {u : Value} (r : RelV y u) (f : flatV y = true) : eqU x u = eqV y x := by
  cases y with
  | non => cases r; rfl
  | bl b => cases r; rfl
  | int i => obtain ⟨t, rfl⟩ := r; rfl
  | str z => obtain ⟨t, rfl⟩ := r; rfl
  | _ => exact absurd (show false = true from f) Bool.false_ne_true
theorem any_eqU {x : V} : ∀ {xs : List V} {us : List Value}, Vals xs us → xs.all flatV = true → us.any (eqU x) = xs.any fun y => eqV y x
  | _, _, .nil, _ => rfl
  | y :: xs, u :: us, .cons r t, f => by
    rw [List.all_cons, Bool.and_eq_true] at f
    rw [List.any_cons, List.any_cons, eqU_of r f.1, any_eqU t f.2]
theorem mem_eqAt {A : Around} {s : Shared} {x : V} {v : Value} (rx : RelV x v) (fx : flatV x = true) : ∀ {xs : List V} {us : List Value}, Vals xs us → xs.all flatV = true → ∀ u ∈ us, SeqAt.EqAt A s u v (eqU x u)
  | _, _, .nil, _ => fun u hu => by cases hu
  | y :: xs, u :: us, .cons r t, f => fun u' hu => by
    rw [List.all_cons, Bool.and_eq_true] at f
    rcases List.mem_cons.mp hu with rfl | hu
    · rw [eqU_of r f.1]; exact eqAt_V r rx f.1 fx
    · exact mem_eqAt rx fx t f.2 u' hu
def inV (x : V) (xs : List V) : Bool := xs.any fun y => eqV y x
def rIn (K : PySem.W.Frag) (neg : Bool) : R2 := fun x y H Q => ∃ p xs, y = .ref p ∧ (SqL K H p xs ∨ SqT K H p xs) ∧ flatV x = true ∧ xs.all flatV = true ∧ Q (.bl (if neg then !inV x xs else inV x xs)) H
theorem op_in_seq : OpR X (compareOp .In) (rIn X.K false) := by
  intro pins s σ H x y v u Q I rx ry h
  obtain ⟨p, xs, rfl, hq, fx, fs, q⟩ := h
  cases ry
  rcases hq with hq | hq
  · obtain ⟨its, r, pl, hz⟩ := I.list hq
    refine SeqAt.in_listAt (eqU x) pl.isList (fun w hw => mem_eqAt rx fx r fs w (by simpa using hw)) ⟨.bl _, H, I, rfl, ?_⟩
    rw [show its.toArray.any (eqU x) = its.any (eqU x) by simp, any_eqU r fs]
    exact q
  · obtain ⟨its, r, pl, hz⟩ := I.tuple hq
    refine SeqAt.in_tupleAt (eqU x) pl (fun w hw => mem_eqAt rx fx r fs w (by simpa using hw)) ⟨.bl _, H, I, rfl, ?_⟩
    rw [show its.toArray.any (eqU x) = its.any (eqU x) by simp, any_eqU r fs]
    exact q
theorem call_len_seq : CallR X (.builtin "len") (fun xs H Q => ∃ p ys, xs = [.ref p] ∧ (SqL X.K H p ys ∨ SqT X.K H p ys) ∧ Q (.int ys.length) H) := by
  intro pins s σ H xs us Q I r h
  obtain ⟨p, ys, rfl, hq, q⟩ := h
  obtain ⟨u, rfl, rx⟩ := vals1 r
  cases rx
  have hn := line63
  rcases hq with hq | hq
  · obtain ⟨its, r', pl, hz⟩ := I.list hq
    have hlen := r'.length
    exact Calls.call_len_list pl.isList (by simp only [List.size_toArray] <;> omega) ⟨.int ys.length, H, I.tok _, ⟨s.toks + 1, by rw [List.size_toArray, hlen]⟩, q⟩
  · obtain ⟨its, r', pl, hz⟩ := I.tuple hq
    have hlen := r'.length
    exact len_tuple pl (by simp only [List.size_toArray] <;> omega) ⟨.int ys.length, H, I.tok _, ⟨s.toks + 1, by rw [List.size_toArray, hlen]⟩, q⟩
theorem call_list_of : CallR X (.type "list") (fun xs H Q => ∃ p ys, xs = [.ref p] ∧ (SqL X.K H p ys ∨ SqT X.K H p ys) ∧ ∀ l, H l = none → Q (.ref l) (upd H l (.lst ys))) := by
  intro pins s σ H xs us Q I r h
  obtain ⟨p, ys, rfl, hq, q⟩ := h
  obtain ⟨u, rfl, rx⟩ := vals1 r
  cases rx
  have fin : ∀ (its : List Value), Vals ys its → ys.length ≤ sizeLine → ∀ (h' : Heap) (c' : Nat), (∀ b o', s.heap.get? b = some o' → h'.get? b = some o') →
      h'.get? s.heap.objs.size = some { cls := .type "list", dict := none, data := .seq its.toArray c', slots := #[] } → EP X pins σ Q (.ref s.heap.objs.size) { s with heap := h' } := fun its r' hz h' c' kp e =>
    ⟨.ref s.heap.objs.size, _, I.laid (t' := s.toks) kp (Nat.le_refl _) (show ObjOk X.prog X.w _ h' _ (.lst ys) from ⟨hz, its, c', r', e⟩), rfl, q _ (I.hok.fresh (Nat.le_refl _))⟩
  rcases hq with hq | hq
  · obtain ⟨its, r', pl, hz⟩ := I.list hq
    have hlen := r'.length
    obtain ⟨o, ho, hc, n, hd⟩ := pl.isList
    exact call_list_seq p (.inl rfl) ho hc hd (fun h' c' kp e => fin its r' hz h' c' kp e) (by simp only [List.size_toArray] <;> omega)
  · obtain ⟨its, r', pl, hz⟩ := I.tuple hq
    have hlen := r'.length
    obtain ⟨o, ho, hc, n, hd⟩ := pl
    exact call_list_seq p (.inr rfl) ho hc hd (fun h' c' kp e => fin its r' hz h' c' kp e) (by simp only [List.size_toArray] <;> omega)
theorem call_tuple_of : CallR X (.type "tuple") (fun xs H Q => ∃ p ys, xs = [.ref p] ∧ ((SqL X.K H p ys ∧ ∀ l, H l = none → Q (.ref l) (upd H l (.tup ys))) ∨ (SqT X.K H p ys ∧ Q (.ref p) H))) := by
  intro pins s σ H xs us Q I r h
  obtain ⟨p, ys, rfl, h⟩ := h
  obtain ⟨u, rfl, rx⟩ := vals1 r
  cases rx
  rcases h with ⟨hq, q⟩ | ⟨hq, q⟩
  · obtain ⟨its, r', pl, hz⟩ := I.list hq
    have hlen := r'.length
    refine call_tuple_list pl.isList (fun h' kp => ?_) (by simp only [List.size_toArray] <;> omega)
    have I1 : Inv X pins σ H { s with heap := h' } := I.kept (t' := s.toks) kp
    have I2 : Inv X pins σ (upd H h'.objs.size (.tup ys)) { s with heap := h'.push { cls := .type "tuple", data := .seq its.toArray } } :=
      I1.laid (t' := s.toks) (fun b o e => Heap.get?_push_of_some _ e) (Nat.le_refl _) (show ObjOk X.prog X.w _ _ _ (.tup ys) from ⟨hz, its, r', IsTup.new _ _⟩)
    exact ⟨.ref h'.objs.size, _, I2, rfl, q _ (I1.hok.fresh (Nat.le_refl _))⟩
  · obtain ⟨its, r', pl, hz⟩ := I.tuple hq
    exact call_tuple_same pl ⟨.ref p, H, I, rfl, q⟩
def tyV (K : PySem.W.Frag) (T : String) (x : V) (H : Hp) : Prop := match x with
  | .str _ => T = "str"
  | .int _ => T = "int"
  | .ref p => (T = "list" ∧ ∃ xs, SqL K H p xs) ∨ (T = "tuple" ∧ ∃ o, K.lookup p = some o ∧ o.cls = .type "tuple" ∧ o.dict = none) ∨
      (T = "dict" ∧ ((∃ kvs, H p = some (.dK kvs)) ∨ ∃ kvs, H p = some (.dT kvs))) ∨ (T = "set" ∧ ∃ S n, H p = some (.set S n))
  | _ => False
theorem tyV_is {pins : List (Addr × Obj)} {σ : St} {H : Hp} {s : Shared} {T : String} {x : V} {v : Value} (I : Inv X pins σ H s) (r : RelV x v) (ty : tyV X.K T x H) :
    s.TypeIs v T ∧ ∀ a, v = .ref a → ∃ ob, s.heap.get? a = some ob ∧ ob.dict = none := by
  cases x with
  | str z =>
    obtain ⟨t, rfl⟩ := r
    cases (show T = "str" from ty)
    exact ⟨typeIs_str s z t, fun _ e => nomatch e⟩
  | int i =>
    obtain ⟨t, rfl⟩ := r
    cases (show T = "int" from ty)
    exact ⟨typeIs_int s i t, fun _ e => nomatch e⟩
  | ref p =>
    cases r
    rcases ty with ⟨rfl, xs, hq⟩ | ⟨rfl, o, hk, hc, hd⟩ | ⟨rfl, hk⟩ | ⟨rfl, S, n, hk⟩
    · obtain ⟨its, _, pl, _⟩ := I.list hq
      refine ⟨pl.isList.typeIs, fun a e => ?_⟩
      cases e
      obtain ⟨o, n, e, c, hd, _⟩ := pl
      exact ⟨o, e, hd⟩
    · refine ⟨⟨o, I.kIn p o hk, hc⟩, fun a e => ?_⟩
      cases e
      exact ⟨o, I.kIn _ o hk, hd⟩
    · have z : ∃ o, s.heap.get? p = some o ∧ o.ExactDict := by
        rcases hk with ⟨kvs, hk⟩ | ⟨kvs, hk⟩
        · obtain ⟨_, _, _, _, o, _, _, e, ex, _⟩ := I.hok p _ hk
          exact ⟨o, e, ex⟩
        · obtain ⟨_, _, _, _, o, _, _, e, ex, _⟩ := I.hok p _ hk
          exact ⟨o, e, ex⟩
      obtain ⟨o, e, ex⟩ := z
      refine ⟨⟨o, e, ex.1⟩, fun a e2 => ?_⟩
      cases e2
      exact ⟨o, e, ex.2.1⟩
    · obtain ⟨o, _, _, _, e, ex, _⟩ := I.hok p _ hk
      refine ⟨⟨o, e, ex.1⟩, fun a e2 => ?_⟩
      cases e2
      exact ⟨o, e, ex.2.1⟩
  | _ => exact False.elim ty
def tBM0 (K : PySem.W.Frag) (T : String) (r : V → List V → Hp → VK → Prop) (to : TE) : TE := fun σ H Q => to σ H fun x H1 => tyV K T x H1 ∧ r x [] H1 Q
def tBM (K : PySem.W.Frag) (T : String) (r : V → List V → Hp → VK → Prop) (to : TE) (t : TA) : TE := fun σ H Q => to σ H fun x H1 => tyV K T x H1 ∧ t σ H1 fun xs H2 => r x xs H2 Q
variable {o e : Expr} {es : List Expr} {to : TE} {t : TA} {name : Str} {apos cpos : Pos} {T id : String} {r : V → List V → Hp → VK → Prop}
theorem pe_bm0 (pa : PlainAttrs T) (slot : Slot T name id) (hty : typeOf (.builtin id) = pure (.type "method_descriptor")) (hm : MtR X id r) (ho : PE X o to)
    (hbase : attributeBase o name X.env (eval o X.env) = eval o X.env := by rfl) (hline : (apos.endLine == cpos.line) = true := by rfl) : PE X (.Call (.Attribute o name apos) [] [] cpos) (tBM0 X.K T r to) := by
  intro pins s σ H Q I h
  refine wpAny_Call_method0_late hbase hline (thn (ho pins s σ H _ I h) fun v s1 ⟨x, H1, I1, r1, ty, q1⟩ => ?_)
  obtain ⟨h1, h2⟩ := tyV_is I1 r1 ty
  exact ⟨T, id, pa, slot, hty, h1, h2, Calls.callWith_builtin rfl (PySem.evalArgs_none (hm pins s1 σ H1 x [] v [] Q I1 r1 .nil q1))⟩
theorem pe_bm (pa : PlainAttrs T) (slot : Slot T name id) (hty : typeOf (.builtin id) = pure (.type "method_descriptor")) (hm : MtR X id r) (ho : PE X o to) (ha : PA X (e :: es) t)
    (hbase : attributeBase o name X.env (eval o X.env) = eval o X.env := by rfl)
    (hfew : ((backTo cpos (starEach (e :: es) X.env)).all (fun x => !x.1) && (backToKw cpos (keywordEach [] X.env)).all (fun x => x.1.isSome)
      && decide ((e :: es).length + ([] : List Keyword).length + (if ([] : List Keyword).isEmpty then 0 else 1) < 30)) = true := by rfl)
    (hline : (apos.endLine == cpos.line) = true := by rfl) (hs : starEach (e :: es) X.env = (false, eval e X.env) :: starEach es X.env := by rfl) (hplain : (backTo cpos (starEach es X.env)).any (·.1) = false := by rfl) :
    PE X (.Call (.Attribute o name apos) (e :: es) [] cpos) (tBM X.K T r to t) := by
  intro pins s σ H Q I h
  refine wpAny_Call_method_late hbase hfew hline rfl (thn (ho pins s σ H _ I h) fun v s1 ⟨x, H1, I1, r1, ty, q1⟩ => ?_)
  obtain ⟨h1, h2⟩ := tyV_is I1 r1 ty
  refine ⟨T, id, pa, slot, hty, h1, h2, ?_⟩
  have hA := ha cpos pins s1 σ H1 _ I1 q1
  rw [hs] at hA ⊢
  refine Calls.callWith_builtin (by show (false || (backTo cpos (starEach es X.env)).any (·.1)) = false; rw [hplain] <;> rfl) (Calls.evalArgs_plain ?_)
  exact thn hA fun us s2 ⟨vs, H2, I2, r2, q2⟩ => hm pins s2 σ H2 x vs v us Q I2 r1 r2 q2
/- xs.append(e), list.index on a module's tuple .. are MtR facts of 06m -/
end
end L2
namespace L2
open PySem PySem.Spec PyProof.Rows
def MtM (X : Cx) (id : String) (r : V → List V → Hp → VK → Prop) : Prop :=
  ∀ (pins : List (Addr × Obj)) (s : Shared) (σ : St) (H : Hp) (x : V) (xs : List V) (v : Value) (us : List Value) (Q : VK), Inv X pins σ H s → RelV x v → Vals xs us → r x xs H Q →
    wpAny (model X.prog X.w) X.A (call (.builtin id) (v :: us)) (EP X pins σ Q) X.xe s
theorem Vals.one : ∀ {x : V} {us : List Value}, Vals [x] us → ∃ u, us = [u] ∧ RelV x u
  | _, _, .cons r .nil => ⟨_, rfl, r⟩
theorem Vals.zero : ∀ {us : List Value}, Vals [] us → us = []
  | _, .nil => rfl
theorem Vals.dropLast {xs : List V} {us : List Value} (h : Vals xs us) : Vals xs.dropLast us.dropLast := by
  induction h with
  | nil => exact .nil
  | cons r t ih =>
    cases t with
    | nil => exact .nil
    | cons q t' => exact .cons r ih
theorem Vals.reverse {xs : List V} {us : List Value} (h : Vals xs us) : Vals xs.reverse us.reverse := by
  induction h with
  | nil => exact .nil
  | cons r t ih => rw [List.reverse_cons, List.reverse_cons]; exact Vals.append ih (.cons r .nil)
theorem erase_last {α : Type} (l : List α) : l.eraseIdx (l.length - 1) = l.dropLast := by
  induction l with
  | nil => rfl
  | cons a r ih =>
    cases r with
    | nil => rfl
    | cons b r =>
      have e : (a :: b :: r).length - 1 = ((b :: r).length - 1) + 1 := by
        have h1 : (a :: b :: r).length = r.length + 2 := rfl
        have h2 : (b :: r).length = r.length + 1 := rfl
        omega
      rw [e, List.eraseIdx_cons_succ, ih]
      all_goals rfl
section
variable {X : Cx} {pins : List (Addr × Obj)} {σ : St} {H : Hp} {s : Shared} {l b : Addr} {xs ys zs : List V}
theorem Inv.lset {its its' : List Value} {n : Nat} {f : Array Value → Array Value} {t' : Nat} (I : Inv X pins σ H s) (hH : H l = some (.lst xs))
    (e : s.heap.get? l = some { cls := .type "list", data := .seq its.toArray n }) (hf : f its.toArray = its'.toArray) (hv : Vals ys its') (hz : ys.length ≤ sizeLine) :
    Inv X pins σ (upd H l (.lst ys)) { s with heap := s.heap.update l (Obj.mapSeq f), toks := t' } := by
  have q := PySem.IsL.update e f
  rw [hf] at q
  refine I.write (x := l) (e := l) (by rw [hH]; exact trivial) (.inl rfl) (fun b' u hb hu => (Heap.get?_update_other s.heap (Obj.mapSeq f) (Ne.symm hb)).trans hu) ⟨_, q⟩ ?_
  exact ⟨hz, its', _, hv, q⟩
theorem Inv.lnew {its : List Value} {t' : Nat} (I : Inv X pins σ H s) (hv : Vals ys its) (hz : ys.length ≤ sizeLine) :
    Inv X pins σ (upd H s.heap.objs.size (.lst ys)) { s with heap := s.heap.push { cls := .type "list", data := .seq its.toArray }, toks := t' } :=
  I.laid (fun _ _ q => Heap.get?_push_of_some _ q) (Nat.le_refl _) ⟨hz, its, 0, hv, Heap.get?_push_size _ rfl⟩
theorem Inv.fresh (I : Inv X pins σ H s) : H s.heap.objs.size = none := I.hok.fresh (Nat.le_refl _)
theorem Inv.lstM (I : Inv X pins σ H s) (hH : H l = some (.lst xs)) : xs.length ≤ sizeLine ∧ ∃ (its : List Value) (n : Nat), Vals xs its ∧ xs.length = its.length ∧ s.heap.get? l = some { cls := .type "list", data := .seq its.toArray n } := by
  obtain ⟨z, its, n, r, e⟩ := I.hok l _ hH
  exact ⟨z, its, n, r, r.length, e⟩
end
section
variable {X : Cx}
def rAppend : V → List V → Hp → VK → Prop := fun x vs H Q => ∃ l xs y, x = .ref l ∧ vs = [y] ∧ H l = some (.lst xs) ∧ xs.length < sizeLine ∧ Q .non (upd H l (.lst (xs ++ [y])))
theorem mt_append : MtM X "list.append" rAppend := by
  intro pins s σ H x vs v us Q I rx rv h
  obtain ⟨l, xs, y, rfl, rfl, hH, hz, q⟩ := h
  cases rx
  obtain ⟨u, rfl, ru⟩ := rv.one
  obtain ⟨z, its, n, r, hl, e⟩ := I.lstM hH
  refine call_meets F.slot_list_append ⟨_, e, rfl⟩ F.entry_list_append (F.args_list_append_2 _ _) (PySem.list_append l its.toArray n u (by rw [List.size_toArray]; omega)) ⟨e, ?_⟩
  refine ⟨.non, _, I.lset (its' := its ++ [u]) hH e (by simp) (r.append (.cons ru .nil)) ?_, rfl, q⟩
  rw [List.length_append, List.length_singleton]
  omega
def rPop : V → List V → Hp → VK → Prop := fun x vs H Q => ∃ l xs y, x = .ref l ∧ vs = [] ∧ H l = some (.lst xs) ∧ xs[xs.length - 1]? = some y ∧ Q y (upd H l (.lst xs.dropLast))
theorem mt_pop : MtM X "list.pop" rPop := by
  intro pins s σ H x vs v us Q I rx rv h
  obtain ⟨l, xs, y, rfl, rfl, hH, hy, q⟩ := h
  cases rx
  have hus := rv.zero
  subst hus
  obtain ⟨z, its, n, r, hl, e⟩ := I.lstM hH
  obtain ⟨u, hu, ru⟩ := r.get hy
  have hy' : its.toArray[its.toArray.size - 1]? = some u := by
    show its.toArray[its.length - 1]? = some u
    rw [← Array.getElem?_toList, ← hl]
    exact hu
  refine call_meets F.slot_list_pop ⟨_, e, rfl⟩ F.entry_list_pop (F.args_list_pop_1 _) (MeetsSeq.list_pop_last l its.toArray n u hy' (by rw [List.size_toArray]; omega)) ⟨e, ?_⟩
  refine ⟨y, _, I.lset (its' := its.dropLast) hH e ?_ r.dropLast ?_, ru, q⟩
  · show its.toArray.eraseIdxIfInBounds (its.toArray.size - 1) = its.dropLast.toArray
    rw [List.size_toArray, List.eraseIdxIfInBounds_toArray, erase_last]
  · rw [List.length_dropLast]
    omega
def rReverse : V → List V → Hp → VK → Prop := fun x vs H Q => ∃ l xs, x = .ref l ∧ vs = [] ∧ H l = some (.lst xs) ∧ Q .non (upd H l (.lst xs.reverse))
theorem mt_reverse : MtM X "list.reverse" rReverse := by
  intro pins s σ H x vs v us Q I rx rv h
  obtain ⟨l, xs, rfl, rfl, hH, q⟩ := h
  cases rx
  have hus := rv.zero
  subst hus
  obtain ⟨z, its, n, r, hl, e⟩ := I.lstM hH
  refine call_meets F.slot_list_reverse ⟨_, e, rfl⟩ F.entry_list_reverse (F.args_list_reverse_1 _) (AutoSeq1.list_reverse_list_0 l its.toArray n (by rw [List.size_toArray]; omega)) ⟨e, ?_⟩
  refine ⟨.non, _, I.lset (its' := its.reverse) hH e (by simp) r.reverse ?_, rfl, q⟩
  rw [List.length_reverse]
  omega
def rCat : R2 := fun x y H Q => ∃ l b xs zs, x = .ref l ∧ y = .ref b ∧ H l = some (.lst xs) ∧ H b = some (.lst zs) ∧ xs.length + zs.length ≤ sizeLine ∧ ∀ p, H p = none → Q (.ref p) (upd H p (.lst (xs ++ zs)))
theorem op_cat : OpR X (binaryOp .Add) rCat := by
  intro pins s σ H x y v u Q I rx ry h
  obtain ⟨l, b, xs, zs, rfl, rfl, hH, hB, hz, q⟩ := h
  cases rx
  cases ry
  obtain ⟨z, its, n, r, hl, e⟩ := I.lstM hH
  obtain ⟨z2, its2, n2, r2, hl2, e2⟩ := I.lstM hB
  refine PySem.P.add_list e e2 ?_ (by rw [List.size_toArray, List.size_toArray]; omega)
  have ea : its.toArray ++ its2.toArray = (its ++ its2).toArray := by simp
  rw [ea]
  exact ⟨.ref _, _, I.lnew (t' := s.toks) (r.append r2) (by rw [List.length_append]; omega), rfl, q _ I.fresh⟩
end
section
variable {prog : Program} {w : World} {A : Around} {E : Value → Shared → Prop} {s : Shared}
set_option maxRecDepth 100000 in
end
section
variable {X : Cx}
end
end L2
namespace L2
open PySem PySem.Spec PyProof.Rows
theorem Vals.ints : ∀ {ns : List Int} {us : List Value}, Vals (ns.map V.int) us → IntsAre us ns
  | [], us, h => by
    rw [List.map_nil] at h
    cases h
    exact IntsAre.nil
  | n :: ns, us, h => by
    rw [List.map_cons] at h
    cases h with
    | cons r t =>
      obtain ⟨k, rfl⟩ := r
      exact IntsAre.cons n k (Vals.ints t)
theorem Vals.ref1 {a : Addr} {us : List Value} (r : Vals [V.ref a] us) : us = [Value.ref a] := by
  cases r with
  | cons r t =>
    cases t
    cases r
    rfl
section
variable {prog : Program} {w : World} {A : Around} {E : Value → Shared → Prop} {s : Shared} {l : Addr} {its : List Value} {ns : List Int} {Q : Value → Shared → Prop}
end
section
variable {X : Cx}
end
section
variable {X : Cx}
end
section
variable {X : Cx}
end
section
variable {X : Cx}
end
mutual
inductive Dp (K : PySem.W.Frag) (H : Hp) : V → PyData → Prop
  | non : Dp K H .non .none
  | bl (b : Bool) : Dp K H (.bl b) (.bool b)
  | int (i : Int) : Dp K H (.int i) (.int i)
  | str (x : Str) : Dp K H (.str x) (.str x)
  | lst {a : Addr} {xs : List V} {ds : List PyData} : SqL K H a xs → DpAll K H xs ds → Dp K H (.ref a) (.list ds)
  | tup {a : Addr} {xs : List V} {ds : List PyData} : SqT K H a xs → DpAll K H xs ds → Dp K H (.ref a) (.tuple ds)
inductive DpAll (K : PySem.W.Frag) (H : Hp) : List V → List PyData → Prop
  | nil : DpAll K H [] []
  | cons {v : V} {vs : List V} {d : PyData} {ds : List PyData} : Dp K H v d → DpAll K H vs ds → DpAll K H (v :: vs) (d :: ds)
end
section
variable {X : Cx} {pins : List (Addr × Obj)} {σ : St} {H : Hp} {s : Shared}
mutual
theorem Dp.reads (I : Inv X pins σ H s) : ∀ (d : PyData) (v : V) (u : Value), Dp X.K H v d → RelV v u → ∃ as, Reads s.heap u d as
  | .none, _, _, h, r => by
    cases h
    cases r
    exact ⟨_, Reads.none⟩
  | .bool b, _, _, h, r => by
    cases h
    cases r
    exact ⟨_, Reads.bool b⟩
  | .int i, _, _, h, r => by
    cases h
    obtain ⟨t, rfl⟩ := r
    exact ⟨_, Reads.int i t⟩
  | .str x, _, _, h, r => by
    cases h
    obtain ⟨t, rfl⟩ := r
    exact ⟨_, Reads.str x t⟩
  | .list ds, _, _, h, r => by
    cases h with
    | lst hs ha =>
      cases r
      obtain ⟨its, rv, ⟨o, n, ho, hc, _, hd⟩, _⟩ := I.list hs
      obtain ⟨as, hr⟩ := Dp.readsAll I ds _ its ha rv
      exact ⟨_, Reads.list ho hc hd hr⟩
  | .tuple ds, _, _, h, r => by
    cases h with
    | tup hs ha =>
      cases r
      obtain ⟨its, rv, ⟨o, ho, hc, n, hd⟩, _⟩ := I.tuple hs
      obtain ⟨as, hr⟩ := Dp.readsAll I ds _ its ha rv
      exact ⟨_, Reads.tuple ho hc hd hr⟩
  | .dict _, _, _, h, _ => by cases h
theorem Dp.readsAll (I : Inv X pins σ H s) : ∀ (ds : List PyData) (vs : List V) (us : List Value), DpAll X.K H vs ds → Vals vs us → ∃ as, ReadsAll s.heap us ds as
  | [], _, _, h, r => by
    cases h
    cases r
    exact ⟨_, ReadsAll.nil⟩
  | d :: ds, _, _, h, r => by
    cases h with
    | cons h1 h2 =>
      cases r with
      | cons r1 r2 =>
        obtain ⟨as, q1⟩ := Dp.reads I d _ _ h1 r1
        obtain ⟨bs, q2⟩ := Dp.readsAll I ds _ _ h2 r2
        exact ⟨_, ReadsAll.cons q1 q2⟩
end
end
section
variable {X : Cx}
def rEqD (K : PySem.W.Frag) : R2 := fun x y H Q => ∃ d e, Dp K H x d ∧ Dp K H y e ∧ SeqAt.shaped d = true ∧ SeqAt.shaped e = true ∧ Q (.bl (PyData.eqv d e)) H
theorem op_eqD (hu : X.A.units + 64 < cLine) : OpR X (compareOp .Eq) (rEqD X.K) := by
  intro pins s σ H x y v u Q I rx ry h
  obtain ⟨d, e, hd, he, sd, se, q⟩ := h
  obtain ⟨as, r1⟩ := Dp.reads I d x v hd rx
  obtain ⟨bs, r2⟩ := Dp.reads I e y u he ry
  exact SeqAt.compareEq_shaped r1 r2 sd se hu ⟨.bl _, H, I, rfl, q⟩
end
end L2
namespace L2
open PySem PySem.Spec PyProof.Rows
abbrev CellAt (h : Heap) (c : Addr) (v : Option Value) : Prop := h.IsCell c v
def relS (scope sc : Scope) : Scope :=
  { scope with names := scope.names.map fun (n, k) => if (k == .free && sc.kind == .function && sc.names.lookup n == some .cell) then (n, .cell) else (n, k) }
def cloFrom (cells : List (Str × Addr)) : List (Str × NameKind) → List (Str × Addr) → List (Str × Addr)
  | [], acc => acc
  | (n, k) :: r, acc => if k == .free then cloFrom cells r ((n, (cells.lookup n).getD 0) :: acc) else cloFrom cells r acc
theorem closure_loop (env : Env) (f : Str × NameKind → List (Str × Addr) → Sem (ForInStep (List (Str × Addr))))
    (hf : ∀ n k c, f (n, k) c = if k == .free then (do let a ← cellOf env n; pure (.yield ((n, a) :: c))) else pure (.yield c)) :
    ∀ (names : List (Str × NameKind)) (acc : List (Str × Addr)), (∀ y ∈ names, y.2 = .free → ∃ c, env.cells.lookup y.1 = some c) → forIn names acc f = pure (cloFrom env.cells names acc)
  | [], acc, _ => by rw [List.forIn_nil]; rfl
  | (n, k) :: r, acc, h => by
    rw [List.forIn_cons, hf]
    have ih := fun acc => closure_loop env f hf r acc fun y hy => h y (List.mem_cons_of_mem _ hy)
    unfold cloFrom
    by_cases hk : (k == NameKind.free) = true
    · rw [if_pos hk, if_pos hk]
      obtain ⟨c, hc⟩ := h (n, k) List.mem_cons_self (by simpa using hk)
      have e : cellOf env n = pure c := by unfold cellOf; rw [hc]
      rw [e]
      have e2 : (env.cells.lookup n).getD 0 = c := by rw [hc]; rfl
      rw [e2]
      exact ih _
    · rw [if_neg hk, if_neg hk]
      exact ih _
theorem closure_ok {scope : Scope} {env : Env} (h : ∀ y ∈ scope.names, y.2 = .free → ∃ c, env.cells.lookup y.1 = some c) : closureFor scope env = pure (cloFrom env.cells scope.names []) := by
  simp only [closureFor]
  rw [closure_loop env _ (fun n k c => rfl) scope.names [] h]
  rfl
theorem mem_lookup {α : Type} : ∀ {l : List (Str × α)} {n : Str} {c : α}, (n, c) ∈ l → ∃ c', l.lookup n = some c'
  | (k, v) :: r, n, c, h => by
    rw [List.lookup_cons]
    cases hb : n == k with
    | true => exact ⟨_, rfl⟩
    | false =>
      rcases List.mem_cons.mp h with e | h
      · cases e; simp at hb
      · exact mem_lookup h
theorem cloFrom_mem {cells : List (Str × Addr)} : ∀ {names : List (Str × NameKind)} {acc : List (Str × Addr)} {n : Str} {c : Addr}, (n, c) ∈ cloFrom cells names acc → (n, c) ∈ acc ∨ ((n, .free) ∈ names ∧ c = (cells.lookup n).getD 0)
  | [], _, _, _, h => .inl h
  | (m, k) :: r, acc, n, c, h => by
    unfold cloFrom at h
    split at h
    · rename_i hk
      have hk : k = .free := by simpa using hk
      rcases cloFrom_mem h with h | ⟨h1, h2⟩
      · rcases List.mem_cons.mp h with e | h
        · cases e; exact .inr ⟨hk ▸ List.mem_cons_self, rfl⟩
        · exact .inl h
      · exact .inr ⟨List.mem_cons_of_mem _ h1, h2⟩
    · rcases cloFrom_mem h with h | ⟨h1, h2⟩
      · exact .inl h
      · exact .inr ⟨List.mem_cons_of_mem _ h1, h2⟩
theorem cloFrom_acc {cells : List (Str × Addr)} : ∀ {names : List (Str × NameKind)} {acc : List (Str × Addr)} {p : Str × Addr}, p ∈ acc → p ∈ cloFrom cells names acc
  | [], _, _, h => h
  | (m, k) :: r, acc, p, h => by
    unfold cloFrom
    split
    · exact cloFrom_acc (List.mem_cons_of_mem _ h)
    · exact cloFrom_acc h
theorem cloFrom_has {cells : List (Str × Addr)} : ∀ {names : List (Str × NameKind)} {acc : List (Str × Addr)} {n : Str}, (n, .free) ∈ names → (n, (cells.lookup n).getD 0) ∈ cloFrom cells names acc
  | (m, k) :: r, acc, n, h => by
    unfold cloFrom
    rcases List.mem_cons.mp h with e | h
    · cases e
      exact cloFrom_acc List.mem_cons_self
    · split
      · exact cloFrom_has h
      · exact cloFrom_has h
theorem cells_mem : ∀ {names : List (Str × NameKind)} {h : Heap} {acc : List (Str × Addr)} {x : Str} {c : Addr}, (x, c) ∈ cellsFrom h.objs.size names acc →
    (x, c) ∈ acc ∨ ((x, .cell) ∈ names ∧ h.objs.size ≤ c ∧ CellAt (pushCells h names) c none)
  | [], _, _, _, _, h => .inl h
  | (n, k) :: r, h, acc, x, c, hm => by
    unfold cellsFrom at hm
    unfold pushCells
    split at hm
    · rename_i hk
      rw [if_pos hk]
      have hk : k = .cell := by simpa using hk
      rw [← Heap.size_push h { cls := .type "cell", data := .cell none }] at hm
      rcases cells_mem hm with hm | ⟨h1, h2, h3⟩
      · rcases List.mem_cons.mp hm with e | hm
        · cases e
          exact .inr ⟨hk ▸ List.mem_cons_self, Nat.le_refl _, _, pushCells_keeps r _ _ _ (Heap.get?_push_size _ rfl), rfl⟩
        · exact .inl hm
      · rw [Heap.size_push] at h2
        exact .inr ⟨List.mem_cons_of_mem _ h1, Nat.le_of_succ_le h2, h3⟩
    · rename_i hk
      rw [if_neg hk]
      rcases cells_mem hm with hm | ⟨h1, h2, h3⟩
      · exact .inl hm
      · exact .inr ⟨List.mem_cons_of_mem _ h1, h2, h3⟩
theorem cells_acc : ∀ {names : List (Str × NameKind)} {n : Nat} {acc : List (Str × Addr)} {p : Str × Addr}, p ∈ acc → p ∈ cellsFrom n names acc
  | [], _, _, _, h => h
  | (m, k) :: r, n, acc, p, h => by
    unfold cellsFrom
    split
    · exact cells_acc (List.mem_cons_of_mem _ h)
    · exact cells_acc h
theorem cells_has : ∀ {names : List (Str × NameKind)} {n : Nat} {acc : List (Str × Addr)} {x : Str}, (x, .cell) ∈ names → ∃ c, (x, c) ∈ cellsFrom n names acc
  | (m, k) :: r, n, acc, x, h => by
    unfold cellsFrom
    rcases List.mem_cons.mp h with e | h
    · cases e
      exact ⟨n, cells_acc List.mem_cons_self⟩
    · split
      · exact cells_has h
      · exact cells_has h
theorem cells_inj : ∀ {names : List (Str × NameKind)} {h : Heap} {acc : List (Str × Addr)} {x y : Str} {c : Addr}, (∀ p ∈ acc, p.2 < h.objs.size) → (∀ x y c, (x, c) ∈ acc → (y, c) ∈ acc → x = y) →
    (x, c) ∈ cellsFrom h.objs.size names acc → (y, c) ∈ cellsFrom h.objs.size names acc → x = y
  | [], _, _, _, _, _, _, hi, h1, h2 => hi _ _ _ h1 h2
  | (n, k) :: r, h, acc, x, y, c, hl, hi, h1, h2 => by
    unfold cellsFrom at h1 h2
    split at h1
    · rename_i hk
      rw [if_pos hk] at h2
      rw [← Heap.size_push h { cls := .type "cell", data := .cell none }] at h1 h2
      refine cells_inj (h := h.push _) (fun p hp => ?_) (fun x y c a b => ?_) h1 h2
      · rw [Heap.size_push]
        rcases List.mem_cons.mp hp with rfl | hp
        · exact Nat.lt_succ_self _
        · exact Nat.lt_succ_of_lt (hl p hp)
      · rcases List.mem_cons.mp a with e | a <;> rcases List.mem_cons.mp b with e' | b
        · cases e; cases e'; rfl
        · cases e; exact absurd (hl _ b) (Nat.lt_irrefl _)
        · cases e'; exact absurd (hl _ a) (Nat.lt_irrefl _)
        · exact hi _ _ _ a b
    · rename_i hk
      rw [if_neg hk] at h2
      exact cells_inj hl hi h1 h2
theorem newEnv_comp {M : Model} {A : Around} {E : Value → Shared → Prop} {s : Shared} {scope : Scope} {globals : Addr} {closure : List (Str × Addr)} {qual : Str} {func : Option Addr} {code : Value} {around : Env} {builtins : Addr} {Q : Env → Shared → Prop}
    (h : Q (newEnv scope s.heap.objs.size globals (cellsFrom (s.heap.objs.size + 1) scope.names closure) qual func code (some around) builtins)
      { s with heap := pushCells (s.heap.push { cls := .type "dict", data := .dict #[] }) scope.names }) :
    wpAny M A (newFunctionEnv scope globals closure [] qual func code (some around) builtins) Q E s := by
  simp only [newFunctionEnv, Option.isSome_some, if_true]
  refine wpAny_bind (wpAny_alloc ?_)
  refine wpAny_bind (wpAny_layCells _ (fun n k c => rfl) scope.names closure _ _ ?_)
  rw [show ({ s with heap := s.heap.push { cls := .type "dict", data := .dict #[] } } : Shared).heap.objs.size = s.heap.objs.size + 1 from Heap.size_push ..]
  rw [List.forIn_nil]
  exact wpAny_bind (wpAny_pure (wpAny_pure h))
theorem lookup_relS {sc : Scope} : ∀ {names : List (Str × NameKind)} {x : Str} {k : NameKind},
    (names.map fun (n, k) => if (k == NameKind.free && sc.kind == .function && sc.names.lookup n == some .cell) then (n, NameKind.cell) else (n, k)).lookup x = some k →
    ∃ k', names.lookup x = some k' ∧ (k = k' ∨ (k' = .free ∧ k = .cell))
  | [], _, _, h => by simp at h
  | (n, k₀) :: r, x, k, h => by
    have ih := @lookup_relS sc r x k
    have h' : List.lookup x ((if (k₀ == NameKind.free && sc.kind == .function && sc.names.lookup n == some .cell) = true then (n, NameKind.cell) else (n, k₀)) :: (r.map _)) = some k := h
    cases hx : x == n with
    | true =>
      simp only [List.lookup_cons, hx]
      by_cases hc : (k₀ == NameKind.free && sc.kind == .function && sc.names.lookup n == some .cell) = true
      · rw [if_pos hc] at h'
        simp only [List.lookup_cons, hx] at h'
        cases h'
        simp only [Bool.and_eq_true, beq_iff_eq] at hc
        exact ⟨k₀, rfl, .inr ⟨hc.1.1, rfl⟩⟩
      · rw [if_neg hc] at h'
        simp only [List.lookup_cons, hx] at h'
        cases h'
        exact ⟨_, rfl, .inl rfl⟩
    | false =>
      simp only [List.lookup_cons, hx]
      by_cases hc : (k₀ == NameKind.free && sc.kind == .function && sc.names.lookup n == some .cell) = true
      · rw [if_pos hc] at h'
        simp only [List.lookup_cons, hx] at h'
        exact ih h'
      · rw [if_neg hc] at h'
        simp only [List.lookup_cons, hx] at h'
        exact ih h'
structure BlkOk (N : List Str) (sc scope : Scope) (own : List (Str × Nat)) : Prop where
  kind : scope.kind = .function
  uniq : ∀ y ∈ scope.names, scope.names.lookup y.1 = some y.2
  ix : ∀ p ∈ own, N[p.2]? = some p.1
  free : ∀ y ∈ scope.names, y.2 = .free → sc.names.lookup y.1 = some .cell ∨ sc.names.lookup y.1 = some .free
  own : ∀ y ∈ scope.names, y.2 = .local ∨ y.2 = .cell → y.1 ∈ own.map (·.1) ∨ y.1 ∉ N
def wipe (σ : St) : List Nat → St
  | [] => σ
  | v :: vs => (wipe σ vs).set v none
theorem wipe_length (σ : St) : ∀ vs : List Nat, (wipe σ vs).length = σ.length
  | [] => rfl
  | v :: vs => by unfold wipe; rw [List.length_set, wipe_length σ vs]
theorem wipe_some {σ : St} {i : Nat} {x : V} : ∀ {vs : List Nat}, (wipe σ vs)[i]? = some (some x) → σ[i]? = some (some x) ∧ i ∉ vs
  | [], h => ⟨h, by simp⟩
  | v :: vs, h => by
    unfold wipe at h
    by_cases hi : v = i
    · subst hi
      by_cases hv : v < (wipe σ vs).length
      · rw [List.getElem?_set_self hv] at h; cases h
      · rw [List.getElem?_eq_none (by simpa using hv)] at h; cases h
    · rw [List.getElem?_set_ne hi] at h
      obtain ⟨h1, h2⟩ := wipe_some h
      exact ⟨h1, by simp only [List.mem_cons, not_or]; exact ⟨fun e => hi e.symm, h2⟩⟩
abbrev Cx.blk (X : Cx) (s : Shared) (H : Hp) (scope : Scope) (cenv : Env) (fp : List Addr) : Cx := { X with s_0 := s, H_0 := H, env := cenv, outer := X.stack, ex := fp, fn := fun x => scope.names.lookup x == some .cell, pn := [], xe := fun _ _ => False }
section
variable {X : Cx} {pins : List (Addr × Obj)} {σ : St} {H : Hp} {s : Shared}
theorem block_start {scope : Scope} {own : List (Str × Nat)} {fp : List Addr} (I : Inv X pins σ H s) (ok : BlkOk X.N X.env.scope scope own) (hN : X.N.Nodup) (hfp : ∀ b ∈ fp, FpOk X pins H b ∧ b < s.heap.objs.size) :
    Inv (X.blk s H scope (compEnvC scope (cellsFrom (s.heap.objs.size + 1) scope.names (cloFrom X.env.cells scope.names [])) s.heap.objs.size X.env) fp) [] (wipe σ (own.map (·.2))) H { s with heap := pushCells (s.heap.push { cls := .type "dict", data := .dict #[] }) scope.names } := by
  have hfree : ∀ y ∈ scope.names, y.2 = .free → ∃ c, X.env.cells.lookup y.1 = some c := fun y hy e => by
    rcases ok.free y hy e with k | k
    · exact I.ok.has _ (.inl k)
    · exact I.ok.has _ (.inr k)
  generalize hcenv : compEnvC scope (cellsFrom (s.heap.objs.size + 1) scope.names (cloFrom X.env.cells scope.names [])) s.heap.objs.size X.env = cenv
  have kp : ∀ b o, s.heap.get? b = some o → (pushCells (s.heap.push { cls := .type "dict", data := .dict #[] }) scope.names).get? b = some o := fun b o e => pushCells_keeps _ _ _ _ (Heap.get?_push_of_some _ e)
  have hL : cenv.locals = s.heap.objs.size := by rw [← hcenv]; rfl
  have hcl : cenv.cells = cellsFrom (s.heap.objs.size + 1) scope.names (cloFrom X.env.cells scope.names []) := by rw [← hcenv]; rfl
  have hsc : cenv.scope = relS scope X.env.scope := by rw [← hcenv]; rfl
  rw [← Heap.size_push s.heap { cls := .type "dict", data := .dict #[] }] at hcl
  have cm : ∀ {y c}, (y, c) ∈ cloFrom X.env.cells scope.names [] → X.env.cells.lookup y = some c ∧ c < s.heap.objs.size := fun {y c} hm => by
    rcases cloFrom_mem hm with hm | ⟨h1, rfl⟩
    · cases hm
    · obtain ⟨c, hc⟩ := hfree _ h1 rfl
      rw [hc]
      obtain ⟨w, z⟩ := I.cell _ _ hc
      exact ⟨rfl, z.lt⟩
  have mem : ∀ {y c}, cenv.cells.lookup y = some c → (X.env.cells.lookup y = some c ∧ c < s.heap.objs.size) ∨ (s.heap.objs.size + 1 ≤ c ∧ CellAt (pushCells (s.heap.push { cls := .type "dict", data := .dict #[] }) scope.names) c none) := fun {y c} e => by
    rw [hcl] at e
    rcases cells_mem (PySem.mem_of_lookup e) with hm | ⟨_, h2, h3⟩
    · exact .inl (cm hm)
    · rw [Heap.size_push] at h2; exact .inr ⟨h2, h3⟩
  have look : ∀ {y}, scope.names.lookup y = some .free → ∃ c, cenv.cells.lookup y = some c ∧ X.env.cells.lookup y = some c := fun {y} hl => by
    have hy : (y, NameKind.free) ∈ scope.names := PySem.mem_of_lookup hl
    obtain ⟨c', e'⟩ := mem_lookup (cells_acc (names := scope.names) (n := (s.heap.push { cls := .type "dict", data := .dict #[] }).objs.size) (cloFrom_has (cells := X.env.cells) (acc := []) hy))
    rw [← hcl] at e'
    refine ⟨c', e', ?_⟩
    rw [hcl] at e'
    rcases cells_mem (PySem.mem_of_lookup e') with hm | ⟨h1, _, _⟩
    · exact (cm hm).1
    · have := ok.uniq _ h1
      rw [hl] at this; cases this
  have okB : (X.blk s H scope cenv fp).Ok := by
    refine ⟨I.ok.mod, by show cenv.scope.kind = _; rw [hsc]; exact ok.kind, by show cenv.globals = _; rw [← hcenv]; exact I.ok.glob, by show cenv.builtins = _; rw [← hcenv]; exact I.ok.blt, by show s.heap.objs.size ≤ cenv.locals; rw [hL]; exact Nat.le_refl _,
      fun y z c e1 e2 => ?_, fun y hy => ?_, fun y c z e => ?_, I.ok.hd, I.ok.frames, .inl rfl, fun b hb => ⟨?_, fun y c e z => ?_⟩, I.bs, Nat.le_trans I.ok.bsz I.sz, fun b o e hb => ?_, fun b hb z => ?_, I.stack, I.stkFree⟩
    · have e1 : cenv.cells.lookup y = some c := e1
      have e2 : cenv.cells.lookup z = some c := e2
      rw [hcl] at e1 e2
      refine cells_inj (fun p hp => ?_) (fun y z c a b => I.ok.inj y z c (cm a).1 (cm b).1) (PySem.mem_of_lookup e1) (PySem.mem_of_lookup e2)
      rw [Heap.size_push]
      exact Nat.lt_succ_of_lt (cm (y := p.1) (c := p.2) hp).2
    · show ∃ c, cenv.cells.lookup y = some c
      have key : ∀ k, cenv.kindOf y = some k → (k = .cell ∨ k = .free) → ∃ c, cenv.cells.lookup y = some c := fun k hk hk' => by
        unfold Env.kindOf at hk
        rw [hsc] at hk
        obtain ⟨k', e, r⟩ := lookup_relS hk
        have : k' = .cell ∨ k' = .free := by
          rcases r with rfl | ⟨rfl, _⟩
          · exact hk'
          · exact .inr rfl
        rcases this with rfl | rfl
        · obtain ⟨c, hm⟩ := cells_has (n := (s.heap.push { cls := .type "dict", data := .dict #[] }).objs.size) (acc := cloFrom X.env.cells scope.names []) (PySem.mem_of_lookup e)
          obtain ⟨c', e'⟩ := mem_lookup hm
          exact ⟨c', by rw [hcl]; exact e'⟩
        · obtain ⟨c, h1, _⟩ := look e
          exact ⟨c, h1⟩
      rcases hy with hy | hy
      · exact key _ hy (.inl rfl)
      · exact key _ hy (.inr rfl)
    · have z : (scope.names.lookup y == some NameKind.cell) = true := z
      have z : scope.names.lookup y = some .cell := by simpa using z
      have e : cenv.cells.lookup y = some c := e
      rw [hcl] at e
      rcases cells_mem (PySem.mem_of_lookup e) with hm | ⟨_, h2, _⟩
      · rcases cloFrom_mem hm with hm | ⟨h1, _⟩
        · cases hm
        · have q := ok.uniq _ h1
          rw [z] at q; cases q
      · rw [Heap.size_push] at h2
        exact Nat.le_of_succ_le h2
    · show b ≠ cenv.locals
      rw [hL]; exact Nat.ne_of_lt (hfp b hb).2
    · have e : cenv.cells.lookup y = some c := e
      rcases mem e with ⟨h1, _⟩ | ⟨h1, _⟩
      · exact (hfp b hb).1.2.2.2.2.1 y c h1 z
      · have h2 : s.heap.objs.size + 1 ≤ b := by rw [← z]; exact h1
        exact absurd (Nat.lt_of_lt_of_le (hfp b hb).2 (Nat.le_of_succ_le h2)) (Nat.lt_irrefl _)
    · rcases (hfp b hb).1.2.2.2.1 with z | z
      · exact I.ok.noex b o e z
      · exact absurd (Nat.lt_of_lt_of_le (Heap.lt_size e) (Nat.le_trans I.ok.bsz z)) (Nat.lt_irrefl _)
    · rcases List.mem_cons.mp (I.stkSub b z) with z | z
      · exact (hfp b hb).1.2.1 z
      · exact (hfp b hb).1.2.2.1 z
  refine ⟨okB, rfl, I.bare, Un.kept kp, ⟨fun _ => none, ?_, fun i y av e1 e2 e3 => ?_⟩, fun y c e => ?_, ?_, fun y c e => ?_, fun p hp => ?_, I.hok.kept kp, by rw [wipe_length]; exact I.len⟩
  · show Heap.Ns _ cenv.locals _
    rw [hL]
    exact Heap.Ns.keeps (Heap.Ns.new ..) fun b o e => pushCells_keeps _ _ _ _ e
  · obtain ⟨e2, hne⟩ := wipe_some e2
    have hfr : scope.names.lookup y = some .free ∧ (cenv.kindOf y = some .cell ∨ cenv.kindOf y = some .free) := by
      have key : ∀ k, cenv.scope.names.lookup y = some k → k = .local ∨ k = .cell ∨ k = .free → scope.names.lookup y = some .free ∧ (cenv.kindOf y = some .cell ∨ cenv.kindOf y = some .free) := fun k hk hk' => by
        have hk0 := hk
        rw [hsc] at hk
        obtain ⟨k', e, r⟩ := lookup_relS hk
        have no : ¬ (k' = .local ∨ k' = .cell) := fun hh => by
          rcases ok.own _ (PySem.mem_of_lookup e) hh with e' | e'
          · obtain ⟨p, hp, hpy⟩ := List.mem_map.mp e'
            have e3 := ok.ix p hp
            have : p.1 = y := hpy
            rw [this] at e3
            exact hne (List.mem_map.mpr ⟨p, hp, nodup_ix hN e3 e1⟩)
          · exact e' (List.mem_of_getElem? e1)
        rcases r with rfl | ⟨rfl, rfl⟩
        · rcases hk' with rfl | rfl | rfl
          · exact absurd (.inl rfl) no
          · exact absurd (.inr rfl) no
          · exact ⟨e, .inr hk0⟩
        · exact ⟨e, .inl hk0⟩
      have e3 : Vis cenv.scope y := e3
      rcases e3 with e3 | e3 | e3
      · exact key _ e3 (.inl rfl)
      · exact key _ e3 (.inr (.inl rfl))
      · exact key _ e3 (.inr (.inr rfl))
    obtain ⟨m, hn, hl⟩ := I.loc
    have hvis : Vis X.env.scope y := (ok.free _ (PySem.mem_of_lookup hfr.1) rfl).elim (fun k => .inr (.inl k)) (fun k => .inr (.inr k))
    obtain ⟨w, r, q⟩ := hl i y av e1 e2 hvis
    refine ⟨w, r, .inr ⟨hfr.2, ?_⟩⟩
    obtain ⟨c, h1, h2⟩ := look hfr.1
    rcases q with ⟨k, _⟩ | ⟨_, c', e', z⟩
    · have k : X.env.scope.names.lookup y = some .local := k
      rcases ok.free _ (PySem.mem_of_lookup hfr.1) rfl with k' | k' <;> rw [show X.env.scope.names.lookup y = _ from k'] at k <;> cases k
    · rw [h2] at e'; cases e'
      exact ⟨c, h1, z.keeps kp⟩
  · have e : cenv.cells.lookup y = some c := e
    rcases mem e with ⟨h1, _⟩ | ⟨_, z⟩
    · obtain ⟨w, z⟩ := I.cell y c h1
      exact ⟨w, z.keeps kp⟩
    · exact ⟨_, z⟩
  · show H cenv.locals = none
    rw [hL]; exact I.hok.fresh (Nat.le_refl _)
  · have e : cenv.cells.lookup y = some c := e
    rcases mem e with ⟨h1, _⟩ | ⟨h1, _⟩
    · exact I.freeC y c h1
    · exact I.hok.fresh (Nat.le_of_succ_le h1)
  · exact absurd (show p ∈ ([] : List (Addr × Obj)) ++ [] from hp) (by simp)
theorem app_ok {E : Value → Shared → Prop} {D : Addr} {xs : List V} {y : V} {v : Value} {Q : Value → Shared → Prop} (I : Inv X pins σ H s) (hD : H D = some (.lst xs)) (hz : xs.length < sizeLine) (r : RelV y v)
    (h : ∀ s', Inv X pins σ (upd H D (.lst (xs ++ [y]))) s' → Q .none s') : wpAny (model X.prog X.w) X.A (call (.builtin "list.append") [.ref D, v]) Q E s := by
  obtain ⟨hz', its, n, ri, e⟩ := I.hok D _ hD
  have hl := ri.length
  refine append_at (hsz := by rw [List.size_toArray]; omega) e fun h' sb ho' => ?_
  refine h { s with heap := h' } (I.write (t' := s.toks) (by rw [hD]; trivial) (.inl rfl) (fun b u hb q => (sb.2 b hb).trans q) ⟨_, ho'⟩ ⟨by rw [List.length_append]; exact hz, its ++ [v], n + 1, ri.append (.cons r .nil), ?_⟩)
  rw [ho']
  simp
def PTs (X : Cx) (ifs : List Expr) (t : TT) : Prop :=
  ∀ (pins : List (Addr × Obj)) (s : Shared) (σ : St) (H : Hp) (Q : Bool → Hp → Prop), Inv X pins σ H s → t σ H Q →
    wpAny (model X.prog X.w) X.A (forIn ifs true fun c r => if r = true then do let ok ← isTrue c X.env (eval c X.env); pure (ForInStep.yield ok) else pure (ForInStep.yield r)) (TP X pins σ Q) X.xe s
def tYes : TT := fun _ H Q => Q true H
theorem pts_nil : PTs X [] tYes := fun _ _ _ H _ I h => wpAny_tests_nil ⟨H, I, h⟩
end
theorem thnF {α : Type} {t : Sem α} {Q Q' : α → Shared → Prop} {M : Model} {A : Around} {E : Value → Shared → Prop} {s : Shared} (h : wpAny M A t Q (fun _ _ => False) s) (hQ : ∀ a s, Q a s → Q' a s) : wpAny M A t Q' E s := wpAny_mono h hQ fun _ _ z => False.elim z
theorem compLoop_any {prog : Program} {w : World} {A : Around} {R : Result → Shared → Prop} {s : Shared} {elt target iter : Expr} {ifs : List Expr} {scope : Scope} {pos : Pos} {it acc : Value} {env : Env} (I : Nat → Shared → Prop)
    (turn : ∀ n s, I n s → wpAny (model prog w) A (pyNext it) (fun r s₁ => match r with
      | none => R (.ok .next) s₁
      | some v => wpAny (model prog w) A (letOwnedTupleGo target it v) (fun _ s₁' => wpAny (model prog w) A (assign target env v) (fun _ s₂ =>
          wpAny (model prog w) A (forIn ifs true fun c r => if r = true then do let ok ← isTrue c env (eval c env); pure (ForInStep.yield ok) else pure (ForInStep.yield r)) (fun ok s₃ =>
            if ok = true then wpAny (model prog w) A (eval elt env) (fun x s₄ =>
              wpAny (model prog w) A (call (.builtin "list.append") [acc, x]) (fun _ s₅ => ∃ m, m < n ∧ I m s₅) (notedBy (model prog w) A env fun e s' => R (.error e) s') s₄) (notedBy (model prog w) A env fun e s' => R (.error e) s') s₃
            else ∃ m, m < n ∧ I m s₃) (notedBy (model prog w) A env fun e s' => R (.error e) s') s₂) (notedBy (model prog w) A env fun e s' => R (.error e) s') s₁') (notedBy (model prog w) A env fun e s' => R (.error e) s') s₁) (notedBy (model prog w) A env fun e s' => R (.error e) s') s)
    (n : Nat) (h : I n s) :
    codeAny (model prog w) A (.compLoop (.ListComp elt [⟨target, iter, ifs, 0⟩] scope pos) 0 it acc env) R s := by
  refine codeAny_loop rfl I (fun n s hI => ?_) n h
  show wpAny _ A ((compTurn (.ListComp elt [⟨target, iter, ifs, 0⟩] scope pos) 0 it acc env).onRaise (fun x => do noteFrame x env; theTreesLotGoes x)) _ _ s
  refine wpAny_noted ?_
  rw [compTurn_list]
  refine wpAny_bind (wpAny_standAt (wpAny_bind (wpAny_mono (turn n s hI) (fun r s₁ h₁ => ?_) fun _ _ h' => h')))
  cases r with
  | none => exact wpAny_pure h₁
  | some v =>
    refine wpAny_bind (wpAny_mono h₁ (fun _ s₁' h₁' => ?_) fun _ _ h' => h')
    refine wpAny_bind (wpAny_mono h₁' (fun _ s₂ h₂ => wpAny_bind (wpAny_mono h₂ (fun ok s₃ h₃ => ?_) fun _ _ h' => h')) fun _ _ h' => h')
    cases ok with
    | false => exact wpAny_pure ⟨rfl, h₃⟩
    | true =>
      exact wpAny_bind (wpAny_bind (wpAny_mono h₃ (fun x s₄ h₄ => wpAny_bind (wpAny_mono h₄ (fun _ s₅ h₅ => wpAny_pure (wpAny_pure ⟨rfl, h₅⟩)) fun _ _ h' => h')) fun _ _ h' => h'))
section
variable {X : Cx}
def tLc (wi : TI) (g : TG) (tt : TT) (te : TE) (vs : List Nat) : TE := fun σ H Q => wi σ H fun J H1 => ∀ D, H1 D = none → ∃ W : Nat → Nat → Hp → Prop, (∃ m, W 0 m (upd H1 D (.lst []))) ∧ ∀ i m H, W i m H →
  (J.stop i H ∧ Q (.ref D) H) ∨ (J.go i H ∧ ∃ Nx : Hp → Prop, (∀ H', Nx H' → ∃ m', m' < m ∧ W (i + 1) m' H') ∧ ∀ x H', J.yld i H x H' → g x (wipe σ vs) H' fun σ2 H2 => wipe σ2 vs = wipe σ vs ∧ tt σ2 H2 fun b H3 =>
    if b = true then te σ2 H3 fun y H4 => ∃ acc, H4 D = some (.lst acc) ∧ acc.length < sizeLine ∧ Nx (upd H4 D (.lst (acc ++ [y]))) else Nx H3)
theorem lc_core {pins : List (Addr × Obj)} {s : Shared} {σ : St} {H : Hp} {Q : VK} {elt tg iter : Expr} {ifs : List Expr} {scope : Scope} {own : List (Str × Nat)} {pos pos' : Pos} {wi : TI} {g : TG} {tt : TT} {te : TE} {use : Option (Value → Sem Unit)} {Qf : Value → Shared → Prop}
    (hc : X.calm = true) (hN : X.N.Nodup) (I : Inv X pins σ H s) (hi : PI X tg iter wi) (ok : BlkOk X.N X.env.scope scope own)
    (hg : ∀ (s : Shared) (H : Hp) (C : Addr) (cl : List (Str × Addr)) (fp : List Addr), PG (X.blk s H scope (compEnvC scope cl C X.env) fp) tg g) (ht : ∀ (s : Shared) (H : Hp) (C : Addr) (cl : List (Str × Addr)) (fp : List Addr), PTs (X.blk s H scope (compEnvC scope cl C X.env) fp) ifs tt)
    (he : ∀ (s : Shared) (H : Hp) (C : Addr) (cl : List (Str × Addr)) (fp : List Addr), PE (X.blk s H scope (compEnvC scope cl C X.env) fp) elt te) (hs : ∀ x, foldedSetIterable iter X.env x = pure x)
    (h : tLc wi g tt te (own.map (·.2)) σ H Q)
    (hRR : ∀ D C s' m H', Inv X pins σ H' s' → Q (.ref D) H' → s'.heap.Ns C m → FpOk X pins H' C → compPost (model X.prog X.w) X.A X.xe use Qf (.ref D) C (.ok .next) s') :
    wpAny (model X.prog X.w) X.A (comprehension (.ListComp elt [⟨tg, iter, ifs, 0⟩] scope pos) scope X.env pos' (newList []) false (eval iter X.env) use) Qf X.xe s := by
  have hfree : ∀ y ∈ scope.names, y.2 = .free → ∃ c, X.env.cells.lookup y.1 = some c := fun y hy e => by
    rcases ok.free y hy e with k | k
    · exact I.ok.has _ (.inl k)
    · exact I.ok.has _ (.inr k)
  refine wpAny_comprehension_free (use := use) rfl hs (closure_ok hfree) ok.kind (fun y hy e => by rw [ok.uniq y hy, e])
    (thn (hi pins s σ H _ I h) fun xv s1 hx => thn hx fun itv s2 h2 => ?_)
  obtain ⟨it, fp, tn, J, H2, e, I2, T, st2, f2, q⟩ := h2
  subst e
  refine wpAny_newObj_type (newEnv_comp ?_) (by show 0 ≤ sizeLine; decide)
  generalize hD : s2.heap.objs.size = D
  have hDn : H2 D = none := I2.hok.fresh (Nat.le_of_eq hD)
  obtain ⟨W, ⟨m0, w0⟩, turn⟩ := q D hDn
  generalize hs3 : ({ s2 with heap := s2.heap.push { cls := .type "list", data := .seq ([] : List Value).toArray } } : Shared) = s3
  have I3 : Inv X pins σ (upd H2 D (.lst [])) s3 := by
    rw [← hs3]
    refine I2.laid (t' := s2.toks) (fun b o e => Heap.get?_push_of_some _ e) (Nat.le_of_eq hD) ⟨Nat.zero_le _, [], 0, .nil, ?_⟩
    rw [← hD]
    exact Heap.get?_push_size _ rfl
  have h3 : s3.heap = s2.heap.push { cls := .type "list", data := .seq ([] : List Value).toArray } := by rw [← hs3]
  have sz : ∀ b ∈ fp, b < s2.heap.objs.size := fun b hb => by
    obtain ⟨o, e, _⟩ := T.obj _ _ st2 b hb
    exact Heap.lt_size e
  have f3 : ∀ b ∈ fp, FpOk X pins (upd H2 D (.lst [])) b ∧ b < s3.heap.objs.size := fun b hb => by
    have hlt := sz b hb
    refine ⟨⟨?_, (f2 b hb).2⟩, by rw [h3, Heap.size_push]; exact Nat.lt_succ_of_lt hlt⟩
    rw [upd_ne (by rw [← hD]; exact Nat.ne_of_lt hlt)]
    exact (f2 b hb).1
  have st3 : tn 0 s3.heap := T.keep _ _ _ st2 fun b _ o e => by rw [h3]; exact Heap.get?_push_of_some _ e
  have I4 := block_start I3 ok hN f3
  have pg := hg s3 (upd H2 D (.lst [])) s3.heap.objs.size (cellsFrom (s3.heap.objs.size + 1) scope.names (cloFrom X.env.cells scope.names [])) fp
  have pt := ht s3 (upd H2 D (.lst [])) s3.heap.objs.size (cellsFrom (s3.heap.objs.size + 1) scope.names (cloFrom X.env.cells scope.names [])) fp
  have pe := he s3 (upd H2 D (.lst [])) s3.heap.objs.size (cellsFrom (s3.heap.objs.size + 1) scope.names (cloFrom X.env.cells scope.names [])) fp
  show codeAny _ _ (.compStart (.ListComp elt [⟨tg, iter, ifs, 0⟩] scope pos) 0 (.ref it) (.ref D) (compEnvC scope (cellsFrom (s3.heap.objs.size + 1) scope.names (cloFrom X.env.cells scope.names [])) s3.heap.objs.size X.env)) (compPost (model X.prog X.w) X.A X.xe use Qf (.ref D) s3.heap.objs.size) { s3 with heap := pushCells (s3.heap.push { cls := .type "dict", data := .dict #[] }) scope.names }
  have nfp : ∀ b ∈ fp, (upd H2 D (.lst [])) b = none := fun b hb => (f3 b hb).1.1
  generalize hce : compEnvC scope (cellsFrom (s3.heap.objs.size + 1) scope.names (cloFrom X.env.cells scope.names [])) s3.heap.objs.size X.env = ce at I4 pg pt pe ⊢
  have cL : ce.locals = s3.heap.objs.size := by subst hce; rfl
  generalize hH3 : upd H2 D (.lst []) = H3 at I3 I4 pg pt pe w0 nfp f3
  generalize hs4 : ({ s3 with heap := pushCells (s3.heap.push { cls := .type "dict", data := .dict #[] }) scope.names } : Shared) = s4 at I4 ⊢
  have st4 : tn 0 s4.heap := T.keep _ _ _ st3 fun b _ o e => by rw [← hs4]; exact pushCells_keeps _ _ _ _ (Heap.get?_push_of_some _ e)
  have stat : ∀ {σ' : St} {H' : Hp} {s' : Shared}, Inv (X.blk s3 H3 scope ce fp) [] σ' H' s' → (∀ b ∈ fp, H' b = none) → ∀ b ∈ fp, FpOk (X.blk s3 H3 scope ce fp) [] H' b := fun {σ' H' s'} I' hn b hb =>
    ⟨hn b hb, (I'.ok.exf b hb).1, I'.ok.exfs b hb, .inl hb, fun x c e => (I'.ok.exf b hb).2 x c e, fun p hp => absurd (show p ∈ ([] : List (Addr × Obj)) ++ [] from hp) (by simp)⟩
  have loop : codeAny (model X.prog X.w) X.A (.compLoop (.ListComp elt [⟨tg, iter, ifs, 0⟩] scope pos) 0 (.ref it) (.ref D) ce) (compPost (model X.prog X.w) X.A X.xe use Qf (.ref D) s3.heap.objs.size) s4 := by
    refine compLoop_any (fun n s' => ∃ i H', Inv (X.blk s3 H3 scope ce fp) [] (wipe σ (own.map (·.2))) H' s' ∧ tn i s'.heap ∧ (∀ b ∈ fp, H' b = none) ∧ W i n H') ?_ m0 ⟨0, H3, I4, st4, nfp, w0⟩
    rintro n s5 ⟨i, H5, I5, st5, n5, w5⟩
    rcases turn i n H5 w5 with ⟨stop, qq⟩ | ⟨go, Nx, hNx, step⟩
    · have td := T.done (X.blk s3 H3 scope ce fp) rfl rfl rfl hc i [] s5 _ H5 (fun _ _ => False) I5 (stat I5 n5) st5 stop
      refine thnF td fun r s6 ⟨hr, I6⟩ => ?_
      subst hr
      have I7 : Inv X pins σ H5 s6 := I3.call' (ch := fp) I6.os I6.base I6.hok I6.bare fun b hb => ⟨(f3 b hb).1.2.2.2.1, (f3 b hb).1.2.1, (f3 b hb).1.2.2.2.2.1, (f3 b hb).1.2.2.2.2.2⟩
      have nC : H5 s3.heap.objs.size = none := by
        have z : H5 ce.locals = none := I6.free
        rw [cL] at z
        exact z
      obtain ⟨m, hn, _⟩ := I6.loc
      have hn : s6.heap.Ns ce.locals m := hn
      rw [cL] at hn
      exact hRR D s3.heap.objs.size s6 m H5 I7 qq hn (I3.fpOk (Nat.le_refl _) nC)
    · have ti := T.item (X.blk s3 H3 scope ce fp) rfl rfl rfl hc i [] s5 _ H5 (fun _ _ => False) I5 (stat I5 n5) st5 go
      refine thnF ti fun r s6 ⟨u, hr, h6⟩ => ?_
      subst hr
      refine thnF h6 fun _ s7 ⟨x, H7, I7, r7, y7, st7, n7⟩ => ?_
      have I7' := I7.pinned (stat I7 n7) (T.obj _ _ st7)
      refine thnF (pg _ s7 _ H7 x u _ I7' r7 (step x H7 y7)) fun _ s8 ⟨σ8, H8, I8, hw8, q8⟩ => ?_
      refine thnF (pt _ s8 σ8 H8 _ I8 q8) fun b s9 ⟨H9, I9, q9⟩ => ?_
      have fin : ∀ {s' : Shared} {H' : Hp}, Inv (X.blk s3 H3 scope ce fp) ([] ++ pinsAt fp s7.heap) σ8 H' s' → Nx H' → ∃ m, m < n ∧ ∃ i H', Inv (X.blk s3 H3 scope ce fp) [] (wipe σ (own.map (·.2))) H' s' ∧ tn i s'.heap ∧ (∀ b ∈ fp, H' b = none) ∧ W i m H' := fun {s' H'} I' nx => by
        obtain ⟨m', hm, w'⟩ := hNx H' nx
        have pin' : ∀ b ∈ fp, ∀ o, s7.heap.get? b = some o → s'.heap.get? b = some o ∧ H' b = none := fun b hb o e =>
          let z := I'.pin (b, o) (List.mem_append_right _ (List.mem_append_right _ (mem_pinsAt hb e)))
          ⟨z.1, z.2.1⟩
        have hl : (wipe σ (own.map (·.2))).length = σ8.length := by rw [← hw8, wipe_length]
        refine ⟨m', hm, i + 1, H', (I'.unpinned (pins := [])).weak hl (fun j v e => ?_), T.keep _ _ _ st7 fun b hb o e => (pin' b hb o e).1, fun b hb => ?_, w'⟩
        · rw [← hw8] at e
          exact (wipe_some e).1
        · obtain ⟨o, e, _⟩ := T.obj _ _ st7 b hb
          exact (pin' b hb o e).2
      cases b with
      | false =>
        simp only [Bool.false_eq_true, if_false] at q9 ⊢
        exact fin I9 q9
      | true =>
        simp only [if_true] at q9 ⊢
        refine thnF (pe _ s9 σ8 H9 _ I9 q9) fun z s10 ⟨yv, H10, I10, r10, acc, hD10, hz10, nx⟩ => ?_
        exact app_ok (X := X.blk s3 H3 scope ce fp) I10 hD10 hz10 r10 fun s11 I11 => fin I11 nx
  exact codeAny_compStart_list loop (T.self X.A 0 _ _ _ st4 loop)
theorem pe_lc {elt tg iter : Expr} {ifs : List Expr} {scope : Scope} {own : List (Str × Nat)} {pos : Pos} {wi : TI} {g : TG} {tt : TT} {te : TE} (hc : X.calm = true) (hN : X.N.Nodup) (hi : PI X tg iter wi) (ok : BlkOk X.N X.env.scope scope own)
    (hg : ∀ (s : Shared) (H : Hp) (C : Addr) (cl : List (Str × Addr)) (fp : List Addr), PG (X.blk s H scope (compEnvC scope cl C X.env) fp) tg g) (ht : ∀ (s : Shared) (H : Hp) (C : Addr) (cl : List (Str × Addr)) (fp : List Addr), PTs (X.blk s H scope (compEnvC scope cl C X.env) fp) ifs tt)
    (he : ∀ (s : Shared) (H : Hp) (C : Addr) (cl : List (Str × Addr)) (fp : List Addr), PE (X.blk s H scope (compEnvC scope cl C X.env) fp) elt te) (hs : ∀ x, foldedSetIterable iter X.env x = pure x := by intro _; rfl) :
    PE X (.ListComp elt [⟨tg, iter, ifs, 0⟩] scope pos) (tLc wi g tt te (own.map (·.2))) := by
  intro pins s σ H Q I h
  rw [eval_ListComp]
  refine lc_core hc hN I hi ok hg ht he hs h fun D C s' m H' I' q hn f => ⟨m, hn, fun h'' sb => ?_⟩
  obtain ⟨f0, f1, f2, f3, f4, f5⟩ := f
  exact ⟨.ref D, H', I'.turned (t' := s'.toks) (fun b o hb e => (sb.2 b hb).trans e) f0 f1 f3 f4 f5, rfl, q⟩
theorem ps_setLc {i : Nat} {y : Str} {py : Pos} {elt tg iter : Expr} {ifs : List Expr} {scope : Scope} {own : List (Str × Nat)} {pos spos : Pos} {wi : TI} {g : TG} {tt : TT} {te : TE} (hc : X.calm = true) (hN : X.N.Nodup) (hy : X.N[i]? = some y) (hyl : X.env.scope.names.lookup y = some .local)
    (hsw : swapsWith (.ListComp elt [⟨tg, iter, ifs, 0⟩] scope pos) (some (.Name y py)) spos.line X.env = pure true) (hi : PI X tg iter wi) (ok : BlkOk X.N X.env.scope scope own)
    (hg : ∀ (s : Shared) (H : Hp) (C : Addr) (cl : List (Str × Addr)) (fp : List Addr), PG (X.blk s H scope (compEnvC scope cl C X.env) fp) tg g) (ht : ∀ (s : Shared) (H : Hp) (C : Addr) (cl : List (Str × Addr)) (fp : List Addr), PTs (X.blk s H scope (compEnvC scope cl C X.env) fp) ifs tt)
    (he : ∀ (s : Shared) (H : Hp) (C : Addr) (cl : List (Str × Addr)) (fp : List Addr), PE (X.blk s H scope (compEnvC scope cl C X.env) fp) elt te) (hs : ∀ x, foldedSetIterable iter X.env x = pure x := by intro _; rfl) :
    PS X (.Assign [.Name y py] (.ListComp elt [⟨tg, iter, ifs, 0⟩] scope pos) spos) (tAsg (tLc wi g tt te (own.map (·.2))) (gName i)) := by
  intro pins s σ H D I h
  rw [exec_Assign_Name_used _ _ _ _ hsw]
  refine wpAny_bind (wpAny_standAt (wpAny_bind ?_))
  show wpAny _ X.A (do let _ ← comprehension (.ListComp elt [⟨tg, iter, ifs, 0⟩] scope pos) scope X.env (firstIterPos [⟨tg, iter, ifs, 0⟩] pos) (newList []) false (eval iter X.env) (some (assign (.Name y py) X.env))) _ _ s
  have h : tLc wi g tt te (own.map (·.2)) σ H (fun x H1 => gName i x σ H1 D.nx) := h
  refine wpAny_bind (thn (lc_core (Qf := fun _ s' => SP X pins D .next s') hc hN I hi ok hg ht he hs h fun L C s' m H' I' q hn f => ?_) fun _ s' hq => wpAny_pure (wpAny_pure hq))
  show wpAny _ _ (assign (.Name y py) X.env (.ref L)) _ _ _
  refine wpAny_assign_Name (store_ok2 (v := V.ref L) I' hN hy (.inl hyl) rfl (fun s2 I2 ⟨a, sb, ha⟩ => ?_) (.inr hyl))
  obtain ⟨f0, f1, f2, f3, f4, f5⟩ := f
  have haC : C ≠ a := by
    rcases ha with z | z
    · rw [z]; exact f1
    · exact fun e => f4 y a z e.symm
  refine ⟨m, hn.sameBut sb haC, fun h3 sb3 => ?_⟩
  exact ⟨_, H', I2.turned (t' := s2.toks) (fun b o hb e => (sb3.2 b hb).trans e) f0 f1 f3 f4 f5, q⟩
theorem sw_true {elt : Expr} {gs : List Comprehension} {scope : Scope} {pos py : Pos} {y : Str} {l : Nat} {env : Env} (hk : env.scope.kind = .function) (hy : env.scope.names.lookup y = some .local) (hl : (py.line == pos.line) = true)
    (ha : (scope.names.any fun (n, k) => n == y && (k == .local || k == .cell)) = false) : swapsWith (.ListComp elt gs scope pos) (some (.Name y py)) l env = pure true := by
  have ky : env.kindOf y = some .local := hy
  have hb : env.blockKind = .function := by unfold Env.blockKind; rw [hk]; rfl
  unfold swapsWith
  simp only [hb, ky, ha, Expr.pos, hl]
  rfl
end
theorem lc_range {lo : Int} {n : Nat} {g : TG} {tt : TT} {te : TE} {vs : List Nat} {σ : St} {H1 : Hp} {D : Addr} {Qd : Hp → Prop} (Pv : Nat → Hp → Prop) (h0 : Pv 0 (upd H1 D (.lst [])))
    (hs : ∀ i H, i < n → Pv i H → g (.int (lo + i)) (wipe σ vs) H fun σ2 H2 => wipe σ2 vs = wipe σ vs ∧ tt σ2 H2 fun b H3 =>
      if b = true then te σ2 H3 fun y H4 => ∃ acc, H4 D = some (.lst acc) ∧ acc.length < sizeLine ∧ Pv (i + 1) (upd H4 D (.lst (acc ++ [y]))) else Pv (i + 1) H3) (hd : ∀ H, Pv n H → Qd H) :
    ∃ W : Nat → Nat → Hp → Prop, (∃ m, W 0 m (upd H1 D (.lst []))) ∧ ∀ i m H, W i m H →
      ((Itr lo n).stop i H ∧ Qd H) ∨ ((Itr lo n).go i H ∧ ∃ Nx : Hp → Prop, (∀ H', Nx H' → ∃ m', m' < m ∧ W (i + 1) m' H') ∧ ∀ x H', (Itr lo n).yld i H x H' → g x (wipe σ vs) H' fun σ2 H2 => wipe σ2 vs = wipe σ vs ∧ tt σ2 H2 fun b H3 =>
        if b = true then te σ2 H3 fun y H4 => ∃ acc, H4 D = some (.lst acc) ∧ acc.length < sizeLine ∧ Nx (upd H4 D (.lst (acc ++ [y]))) else Nx H3) := by
  refine ⟨fun i m H => m = n - i ∧ i ≤ n ∧ Pv i H, ⟨n, by simp, Nat.zero_le _, h0⟩, ?_⟩
  rintro i m H ⟨rfl, hi, p⟩
  by_cases hlt : i < n
  · refine .inr ⟨hlt, Pv (i + 1), fun H' p' => ⟨n - (i + 1), by omega, rfl, hlt, p'⟩, fun x H' y => ?_⟩
    obtain ⟨e, y⟩ := y
    subst e y
    exact hs i _ hlt p
  · have e : i = n := by omega
    subst e
    exact .inl ⟨Nat.le_refl _, hd H p⟩
theorem lc_list {K : PySem.W.Frag} {a : Addr} {xs : List V} {g : TG} {tt : TT} {te : TE} {vs : List Nat} {σ : St} {H1 : Hp} {D : Addr} {Qd : Hp → Prop} (Pv : Nat → Hp → Prop) (h0 : Pv 0 (upd H1 D (.lst []))) (hl : ∀ i H, i ≤ xs.length → Pv i H → SqL K H a xs)
    (hs : ∀ i x H, xs[i]? = some x → Pv i H → g x (wipe σ vs) H fun σ2 H2 => wipe σ2 vs = wipe σ vs ∧ tt σ2 H2 fun b H3 =>
      if b = true then te σ2 H3 fun y H4 => ∃ acc, H4 D = some (.lst acc) ∧ acc.length < sizeLine ∧ Pv (i + 1) (upd H4 D (.lst (acc ++ [y]))) else Pv (i + 1) H3) (hd : ∀ H, Pv xs.length H → Qd H) :
    ∃ W : Nat → Nat → Hp → Prop, (∃ m, W 0 m (upd H1 D (.lst []))) ∧ ∀ i m H, W i m H →
      ((Itl K a).stop i H ∧ Qd H) ∨ ((Itl K a).go i H ∧ ∃ Nx : Hp → Prop, (∀ H', Nx H' → ∃ m', m' < m ∧ W (i + 1) m' H') ∧ ∀ x H', (Itl K a).yld i H x H' → g x (wipe σ vs) H' fun σ2 H2 => wipe σ2 vs = wipe σ vs ∧ tt σ2 H2 fun b H3 =>
        if b = true then te σ2 H3 fun y H4 => ∃ acc, H4 D = some (.lst acc) ∧ acc.length < sizeLine ∧ Nx (upd H4 D (.lst (acc ++ [y]))) else Nx H3) := by
  refine ⟨fun i m H => m = xs.length - i ∧ i ≤ xs.length ∧ Pv i H, ⟨xs.length, by simp, Nat.zero_le _, h0⟩, ?_⟩
  rintro i m H ⟨rfl, hi, p⟩
  have q := hl i H hi p
  by_cases hlt : i < xs.length
  · refine .inr ⟨⟨xs, xs[i], q, by simp [hlt]⟩, Pv (i + 1), fun H' p' => ⟨xs.length - (i + 1), by omega, rfl, hlt, p'⟩, fun x H' y => ?_⟩
    obtain ⟨e, y⟩ := y
    subst e
    exact hs i x _ (y xs q) p
  · have e : i = xs.length := by omega
    subst e
    exact .inl ⟨⟨xs, q, Nat.le_refl _⟩, hd H p⟩
def blkC (N : List Str) (sc scope : Scope) (own : List (Str × Nat)) : Bool :=
  (match scope.kind with | .function => true | _ => false) && (scope.names.all fun y => decide (scope.names.lookup y.1 = some y.2)) && (own.all fun p => decide (N[p.2]? = some p.1)) &&
    (scope.names.all fun y => match y.2 with
      | .free => (match sc.names.lookup y.1 with | some .cell => true | some .free => true | _ => false)
      | .local => decide (y.1 ∈ own.map (·.1)) || decide (y.1 ∉ N)
      | .cell => decide (y.1 ∈ own.map (·.1)) || decide (y.1 ∉ N)
      | _ => true)
theorem blkOk_by {N : List Str} {sc scope : Scope} {own : List (Str × Nat)} (h : blkC N sc scope own = true) : BlkOk N sc scope own := by
  unfold blkC at h
  simp only [Bool.and_eq_true, List.all_eq_true, decide_eq_true_eq] at h
  obtain ⟨⟨⟨h1, h2⟩, h3⟩, h4⟩ := h
  refine ⟨?_, h2, h3, fun y hy e => ?_, fun y hy e => ?_⟩
  · split at h1
    · assumption
    · cases h1
  · have q := h4 y hy
    simp only [e] at q
    split at q <;> first | exact .inl (by assumption) | exact .inr (by assumption) | cases q
  · have q := h4 y hy
    rcases e with e | e <;> (simp only [e, Bool.or_eq_true, decide_eq_true_eq] at q; exact q)
end L2
namespace L2
open PySem PySem.Spec PyProof.Rows
section
variable {prog : Program} {w : World} {A : Around} {R : Result → Shared → Prop} {s : Shared} {elt t0 i0 t1 i1 : Expr} {ifs0 ifs1 : List Expr} {scope : Scope} {pos : Pos} {it acc : Value} {env : Env}
end
section
variable {X : Cx}
end
end L2
namespace L2
open PySem PySem.Spec PyProof.Rows
section
variable {κ : Type} [DecidableEq κ]
end
section
variable {P : Program} {w : World} {H : Hp} {h : Heap} {a : Addr}
end
section
variable {X : Cx} {pins : List (Addr × Obj)} {σ : St} {H : Hp} {s : Shared} {a : Addr} {y v : V} {u r : Value} {o : Option V} {A : Around} {E : Value → Shared → Prop}
end
section
variable {X : Cx} {pins : List (Addr × Obj)} {σ : St} {H : Hp} {s : Shared} {a : Addr} {kvs : List (Key × V)} {k : Key} {u : Value} {A : Around} {E : Value → Shared → Prop}
end
section
variable {X : Cx} {o i e value : Expr} {pos pos' tpos : Pos} {td ty tv : TE}
end
section
variable {X : Cx} {pos : Pos}
end
section
variable {X : Cx} {pins : List (Addr × Obj)} {σ : St} {H : Hp} {s : Shared} {a : Addr} {y d : V} {u r : Value} {o : Option V} {A : Around} {E : Value → Shared → Prop}
end
section
variable {X : Cx} {o e f : Expr} {apos cpos : Pos} {td ty tx : TE}
end
section
variable {X : Cx} {pins : List (Addr × Obj)} {σ : St} {H : Hp} {s : Shared} {a : Addr} {kvs : List (Key × V)} {A : Around} {E : Value → Shared → Prop}
end
section
variable {X : Cx} {pins : List (Addr × Obj)} {σ : St} {H : Hp} {s : Shared} {a : Addr} {y : V} {u : Value} {A : Around} {E : Value → Shared → Prop}
end
end L2
namespace L2
open PySem PySem.Spec PyProof.Rows
section
variable {prog : Program} {w : World} {A : Around} {E : Value → Shared → Prop}
end
section
variable {X : Cx}
end
end L2
namespace L2
open PySem PySem.Spec PyProof.Rows
section
variable {X : Cx} {pins : List (Addr × Obj)} {σ : St} {H : Hp} {s : Shared} {h' : Heap}
theorem Inv.turnedNew {t' : Nat} {ch : List Addr} {T : Addr} {ob : HO} (I : Inv X pins σ H s) (k : ∀ b o, b ∉ ch → s.heap.get? b = some o → h'.get? b = some o) (hf : ∀ b ∈ ch, FpOk X pins H b) (hT : s.heap.objs.size ≤ T)
    (new : ObjOk X.prog X.w (upd H T ob) h' T ob) : Inv X pins σ (upd H T ob) { s with heap := h', toks := t' } := by
  have hn : H T = none := I.hok.fresh hT
  have nit : ∀ b u, H b = some u → b ∉ ch := fun b u e z => by
    have q := (hf b z).1
    rw [q] at e; cases e
  refine I.step (g' := s.gens) (d' := s.drawn) (ch := ch) (fun b hb => ⟨(hf b hb).2.2.2.1, (hf b hb).2.1, (hf b hb).2.2.2.2.1, (hf b hb).2.2.2.2.2⟩) (fun b o _ _ hc e _ => k b o hc e) (fun b o _ _ hc e _ => ⟨o.slots, k b o hc e⟩)
    (fun b o _ e n => ?_) (fun b o hc e => ⟨o, k b o hc e⟩) (fun b xs e => ?_) (fun b o u e => ?_) (fun b ps e => ⟨#[], ?_⟩) (fun m hm => ?_) (fun b u e => ?_) I.bare
  · rw [upd_ne (Nat.ne_of_lt (Nat.lt_of_lt_of_le (Heap.lt_size e) hT))]; exact n
  · rw [upd_ne (ne_of_none e hn)]; exact e
  · rw [upd_ne (ne_of_none e hn)]; exact e
  · rw [upd_ne (ne_of_none e hn), e]; simp
  · obtain ⟨o, es, ep, ho, r⟩ := hm
    exact ⟨o, es, ep, k _ o (fun z => (hf _ z).2.1 rfl) ho, r⟩
  · by_cases hb : b = T
    · subst hb
      rw [upd_same] at e
      cases e
      exact new
    · rw [upd_ne hb] at e
      refine (I.hok b u e).stay (fun c v hc q => k c v ?_ q) (fun c q => by rw [upd_ne (ne_of_none q hn)]; exact q) fun c xs q => by rw [upd_ne (ne_of_none q hn)]; exact q
      rcases hc with z | z
      · rw [z]; exact nit b u e
      · exact nit c _ z
end
section
variable {X : Cx}
theorem pi_one {tg : Expr} {pins : List (Addr × Obj)} {σ : St} {H : Hp} {s : Shared} {R : It → Hp → Prop} {J : It} {tn : Nat → Heap → Prop} {tk : Nat} (I : Inv X pins σ H s) (o : Obj)
    (T : Turn X.prog X.w X.K tg J [s.heap.objs.size] s.heap.objs.size tn) (st : tn 0 (s.heap.push o)) (q : R J H) : PIE X pins σ tg R (.ref s.heap.objs.size) { s with heap := s.heap.push o, toks := tk } := by
  refine ⟨s.heap.objs.size, [s.heap.objs.size], tn, J, H, rfl, I.kept fun b ob e => Heap.get?_push_of_some _ e, T, st, fun b hb => ?_, q⟩
  have e : b = s.heap.objs.size := by simpa using hb
  subst e
  exact I.fpOk (Nat.le_refl _) (I.hok.fresh (Nat.le_refl _))
end
section
variable {X : Cx} {tg : Expr}
end
section
variable {X : Cx} {tg : Expr}
end
def Its (x : Str) : It := ⟨fun i _ => i < x.cps.size, fun i H v H' => H' = H ∧ ∃ c, x.cps[i]? = some c ∧ v = .str ⟨#[c]⟩, fun i _ => x.cps.size ≤ i⟩
theorem turn_str {P : Program} {w : World} {K : PySem.W.Frag} {tg : Expr} (it : Addr) (x : Str) (t : Tok) (ty : String) (hty : ty = "str_ascii_iterator" ∨ ty = "str_iterator") :
    Turn P w K tg (Its x) [it] it (fun i h => h.IsStrIter it ty x t i) where
  mem := by simp
  obj := fun i h st b hb => by
    have e : b = it := by simpa using hb
    subst e
    obtain ⟨o, e, c, d⟩ := st
    exact ⟨o, e, fun v z => by rw [d] at z; cases z⟩
  keep := fun i h h' st k => let ⟨o, ho, r⟩ := st; ⟨o, k it (by simp) o ho, r⟩
  item := by
    intro X hP hw hK hc i pins s σ H E I hf st hg
    subst hP hw hK
    obtain ⟨f0, f1, f2, f3, f4, f5⟩ := hf it (by simp)
    have W : Walks X.prog X.w X.A it [it] [it] x.cps.size (SignAt x) (fun i h => h.IsStrIter it ty x t i) := by
      rcases hty with e | e
      · rw [e]; exact Walks.strAscii (I.ok.hd hc) it x t
      · rw [e]; exact Walks.strWide (I.ok.hd hc) it x t
    have hno : ["enumerate", "zip", "dict_itemiterator", "dict_reverseitemiterator", "odict_iterator", "itertools.zip_longest", "itertools.pairwise"].contains ty = false := by
      rcases hty with e | e
      · rw [e]; decide
      · rw [e]; decide
    refine W.item i s _ _ hg st fun v h' tk hv st' kk => ?_
    obtain ⟨c, u, hcx, rfl⟩ := hv
    have I1 : Inv X pins σ H { s with heap := h', toks := tk } := I.turned (fun b o hb e => kk b o (by simpa using hb) e) f0 f1 f3 f4 f5
    obtain ⟨oi, e, cc, dd⟩ := id st'
    exact ⟨_, rfl, go_of (s := { s with heap := h', toks := tk }) e cc dd hno ⟨.str ⟨#[c]⟩, H, I1, ⟨u, rfl⟩, ⟨rfl, c, hcx, rfl⟩, st', fun b hb => (hf b hb).1⟩⟩
  done := by
    intro X hP hw hK hc i pins s σ H E I hf st hg
    subst hP hw hK
    obtain ⟨f0, f1, f2, f3, f4, f5⟩ := hf it (by simp)
    have hx : x.cps[i]? = none := Array.getElem?_eq_none hg
    rcases hty with e | e
    · rw [e] at st
      exact wpAny_pyNext_ascii_end (I.ok.hd hc) st hx fun h' eb => ⟨rfl, I.turned (t' := s.toks) (fun b o hb e => eb b o hb e) f0 f1 f3 f4 f5⟩
    · rw [e] at st
      exact wpAny_pyNext_wide_end (I.ok.hd hc) st hx fun h' eb => ⟨rfl, I.turned (t' := s.toks) (fun b o hb e => eb b o hb e) f0 f1 f3 f4 f5⟩
  self := fun A i s Q E st h => by
    rcases hty with e | e
    · rw [e] at st; exact wpAny_pyIter_striter_ascii st h
    · rw [e] at st; exact wpAny_pyIter_striter_wide st h
def iStr (te : TE) : TI := fun σ H R => te σ H fun v H1 => ∃ x, v = .str x ∧ R (Its x) H1
theorem pi_str {X : Cx} {tg e : Expr} {te : TE} (he : PE X e te) : PI X tg e (iStr te) := by
  intro pins s σ H R I h
  refine thn (he pins s σ H _ I h) fun v s1 ⟨y, H1, I1, r1, x, ex, q⟩ => ?_
  subst ex
  obtain ⟨t, rfl⟩ := r1
  cases ha : x.cps.all (· < 128)
  · exact wpAny_pyIter_wide ha (pi_one (tk := s1.toks) I1 _ (turn_str _ x t "str_iterator" (.inr rfl)) ⟨_, Heap.get?_push_size _ rfl, rfl, rfl⟩ q)
  · exact wpAny_pyIter_ascii ha (pi_one (tk := s1.toks) I1 _ (turn_str _ x t "str_ascii_iterator" (.inl rfl)) ⟨_, Heap.get?_push_size _ rfl, rfl, rfl⟩ q)
section
variable {prog : Program} {w : World} {A : Around} {E : Value → Shared → Prop} {s : Shared}
end
theorem kv_get {κ : Type} {kvs : List (κ × V)} {vs : List (κ × Value)} (h : KV kvs vs) : ∀ {i : Nat} {k : κ} {v : V}, kvs[i]? = some (k, v) → ∃ u, vs[i]? = some (k, u) ∧ RelV v u := by
  unfold KV at h
  induction h with
  | nil => intro i k v e; simp at e
  | @cons a b l₁ l₂ r t ih =>
    intro i k v e
    cases i with
    | zero =>
      simp only [List.getElem?_cons_zero, Option.some.injEq] at e
      subst e
      refine ⟨b.2, ?_, r.2⟩
      simp only [List.getElem?_cons_zero]
      exact congrArg some (Prod.ext r.1.symm rfl)
    | succ j =>
      simp only [List.getElem?_cons_succ] at e ⊢
      exact ih e
theorem paired_get {α β : Type} {G : α → β → Prop} {l₁ : List α} {l₂ : List β} (h : Paired G l₁ l₂) : ∀ {i : Nat} {a : α}, l₁[i]? = some a → ∃ b, l₂[i]? = some b ∧ G a b := by
  induction h with
  | nil => intro i a e; simp at e
  | @cons a b l₁ l₂ r t ih =>
    intro i a' e
    cases i with
    | zero =>
      simp only [List.getElem?_cons_zero, Option.some.injEq] at e
      subst e
      exact ⟨b, rfl, r⟩
    | succ j =>
      simp only [List.getElem?_cons_succ] at e ⊢
      exact ih e
theorem relV_key {k : Key} {u : Value} (h : keyIs k u = true) : RelV (kV k) u := by
  rcases keyIs_shape h with ⟨i, t, rfl, rfl⟩ | ⟨x, t, rfl, rfl⟩
  · exact ⟨t, rfl⟩
  · exact ⟨t, rfl⟩
section
variable {X : Cx} {pins : List (Addr × Obj)} {σ : St} {H : Hp} {s : Shared} {d : Addr} {o : Obj}
end
theorem dict_ep {o : Obj} {es es' : Array DictEntry} {ep ep' : Nat} (h : o.data = .dict es ep) (h' : o.data = .dict es' ep') : es' = es ∧ ep' = ep := by
  rw [h] at h'
  cases h'
  exact ⟨rfl, rfl⟩
section
variable {P : Program} {w : World} {K : PySem.W.Frag} {tg : Expr} {d : Addr} {o : Obj} {es : Array DictEntry} {ep : Nat}
end
section
variable {X : Cx} {tg e : Expr} {td : TE} {apos cpos : Pos}
end
def Ite (K : PySem.W.Frag) (a : Addr) : It :=
  ⟨fun i H => ∃ (xs : List V) (x : V), SqL K H a xs ∧ xs[i]? = some x, fun i H v H' => ∃ T x, v = .ref T ∧ H T = none ∧ H' = upd H T (.tup [.int (i : Nat), x]) ∧ ∀ xs, SqL K H a xs → xs[i]? = some x, fun i H => ∃ xs : List V, SqL K H a xs ∧ xs.length ≤ i⟩
theorem turn_enum {P : Program} {w : World} {K : PySem.W.Frag} {elts : List Expr} {kk : Nat} {tpos : Pos} (a e it : Addr) :
    Turn P w K (.Tuple elts kk tpos) (Ite K a) [e, it] e (fun i h => (∃ old, IsEnum h e it ((i : Nat) : Int) old) ∧ h.IsListIter it a i ∧ e ≠ it) where
  mem := by simp
  obj := fun i h st b hb => by
    obtain ⟨⟨old, he⟩, ⟨o, ho, hc, hd⟩, _⟩ := st
    have e' : b = e ∨ b = it := by simpa using hb
    rcases e' with z | z
    · rw [z]; exact ⟨_, he, fun v q => nomatch q⟩
    · rw [z]; exact ⟨o, ho, fun v q => by rw [hd] at q; cases q⟩
  keep := fun i h h' st k => let ⟨⟨old, he⟩, hi, hne⟩ := st; ⟨⟨old, k e (by simp) _ he⟩, hi.at fun o q => k it (by simp) o q, hne⟩
  item := by
    intro X hP hw hK hc i pins s σ H E I hf st hg
    subst hP hw hK
    obtain ⟨⟨old, he⟩, hit, hne⟩ := st
    obtain ⟨xs, x, hq, hx⟩ := hg
    obtain ⟨its, rv, p, hz⟩ := I.list hq
    obtain ⟨u, hu, ru⟩ := rv.get hx
    have hel : e < s.heap.objs.size := Heap.lt_size he
    have hil : it < s.heap.objs.size := by obtain ⟨_, q, _⟩ := hit; exact Heap.lt_size q
    refine wpAny_pyNext_enum_item he hit p.isList (x := u) (by simpa using hu) hne fun h' ho hit' hT hsz hk => ?_
    refine ⟨_, rfl, wpAny_letOwnedTupleGo_enum (s := { s with heap := h', toks := s.toks + 1 }) ho fun h'' he' sb => ?_⟩
    have hT2 : h''.get? s.heap.objs.size = some { cls := .type "tuple", data := .seq #[.int i s.toks, u] } := (sb.2 _ (Nat.ne_of_gt hel)).trans hT
    have new : ObjOk X.prog X.w (upd H s.heap.objs.size (.tup [.int (i : Nat), x])) h'' s.heap.objs.size (.tup [.int (i : Nat), x]) :=
      ⟨by show 2 ≤ sizeLine; decide, [.int i s.toks, u], .cons ⟨_, rfl⟩ (.cons ru .nil), ⟨_, hT2, rfl, _, rfl⟩⟩
    have I1 : Inv X pins σ (upd H s.heap.objs.size (.tup [.int (i : Nat), x])) { s with heap := h'', toks := s.toks + 1 } :=
      I.turnedNew (ch := [e, it]) (fun b ob hb q => (sb.2 b (fun z => hb (by simp [z]))).trans (hk b ob (fun z => hb (by simp [z])) (fun z => hb (by simp [z])) q)) hf (Nat.le_refl _) new
    refine ⟨.ref s.heap.objs.size, _, I1, rfl, ⟨_, x, rfl, I.hok.fresh (Nat.le_refl _), rfl, fun ys hy => by rw [I.list_inj hy hq]; exact hx⟩, ⟨⟨u, ?_⟩, hit'.at fun o q => (sb.2 it (Ne.symm hne)).trans q, hne⟩, fun b hb => ?_⟩
    · have e1 : ((i + 1 : Nat) : Int) = (i : Int) + 1 := by omega
      rw [e1]; exact he'
    · have hb' : b < s.heap.objs.size := by
        have e' : b = e ∨ b = it := by simpa using hb
        rcases e' with z | z
        · rw [z]; exact hel
        · rw [z]; exact hil
      rw [upd_ne (Nat.ne_of_lt hb')]
      exact (hf b hb).1
  done := by
    intro X hP hw hK hc i pins s σ H E I hf st hg
    subst hP hw hK
    obtain ⟨⟨old, he⟩, hit, hne⟩ := st
    obtain ⟨xs, hq, hx⟩ := hg
    obtain ⟨its, rv, p, hz⟩ := I.list hq
    obtain ⟨f0, f1, f2, f3, f4, f5⟩ := hf it (by simp)
    have hl := rv.length
    exact wpAny_pyNext_enum_end (I.ok.hd hc) he hit p.isList (by simp; omega) fun h' eb => ⟨rfl, I.turned (t' := s.toks) (fun b o hb q => eb b o hb q) f0 f1 f3 f4 f5⟩
  self := fun A i s Q E st h => let ⟨⟨_, he⟩, _⟩ := st; wpAny_pyIter_enum he h
def iEnum (K : PySem.W.Frag) (ta : TA) : TI := fun σ H R => ta σ H fun vs H1 => ∃ a xs, vs = [.ref a] ∧ SqL K H1 a xs ∧ R (Ite K a) H1
theorem pi_enum {X : Cx} {e : Expr} {ta : TA} {p pos tpos : Pos} {elts : List Expr} {kk : Nat} (hg : Gl X "enumerate") (hm : X.mg "enumerate" = none) (ha : PA X [e] ta) (hs : starEach [e] X.env = [(false, eval e X.env)] := by rfl) :
    PI X (.Tuple elts kk tpos) (.Call (.Name "enumerate" p) [e] [] pos) (iEnum X.K ta) := by
  intro pins s σ H R I h
  refine Call_ (ld_blt I hg hm boot_enumerate (PyProof.Rows.callWith_type1 (thn (ha pos pins s σ H _ I h) fun us s1 ⟨vs, H1, I1, r1, q1⟩ => ?_) hs rfl))
  obtain ⟨a, xs, ex, hq, q⟩ := q1
  subst ex
  cases r1 with
  | cons r rr =>
    cases rr
    cases r
    obtain ⟨its, rv, p', hz⟩ := I1.list hq
    refine call_enumerate_list p'.isList fun h' he hit hsz hk => wpAny_pyIter_enum he ?_
    have I2 : Inv X pins σ H1 { s1 with heap := h' } := I1.kept (t' := s1.toks) hk
    refine ⟨s1.heap.objs.size + 1, [s1.heap.objs.size + 1, s1.heap.objs.size], _, _, H1, rfl, I2, turn_enum a (s1.heap.objs.size + 1) s1.heap.objs.size, ⟨⟨.none, he⟩, hit, Nat.succ_ne_self _⟩, fun b hb => ?_, q⟩
    have e' : b = s1.heap.objs.size + 1 ∨ b = s1.heap.objs.size := by simpa using hb
    have hle : s1.heap.objs.size ≤ b := by
      rcases e' with z | z
      · rw [z]; exact Nat.le_add_right _ _
      · rw [z]; exact Nat.le_refl _
    exact I1.fpOk hle (I1.hok.fresh hle)
end L2
section 
namespace Bits
open PySem PyProof.Rows
end Bits
end 
section 
namespace TL
open PySem PySem.Builtin PySem.Builtin.Str PySem.StrLaws
abbrev tl (x : Str) : List Nat := x.cps.toList
theorem len_tl (x : Str) : x.length = (tl x).length := by simp [tl, Str.length]
theorem ext_tl {x y : Str} (h : tl x = tl y) : x = y := Str.ext' (Array.toList_inj.mp h)
theorem tl_append (x y : Str) : tl (x ++ y) = tl x ++ tl y := by
  show (x ++ y).cps.toList = _
  rw [Str.cps_append, Array.toList_append]
theorem tl_mk (l : List Nat) : tl ⟨l.toArray⟩ = l := rfl
theorem tl_ofString (s : String) : tl (Str.ofString s) = s.toList.map Char.toNat := PyProof.Rows.signs_ofString s
def numL (n : Nat) : List Nat := (Nat.toDigits 10 n).map Char.toNat
theorem tl_num (n : Nat) : tl (Str.ofString (toString ((n : Nat) : Int))) = numL n := PySem.W.KIN.signs_num n
theorem numL_len {n k : Nat} (hk : 0 < k) (h : n < 10 ^ k) : (numL n).length ≤ k := by
  have z := PyProof.Rows.toString_length_le (v := (n : Int)) (by omega) hk (by
    have e : ((10 : Int) ^ k) = ((10 ^ k : Nat) : Int) := by
      first
        | exact (Int.natCast_pow 10 k).symm
        | simp
    rw [e]
    first | exact Int.ofNat_lt.mpr h | omega)
  rw [len_tl, tl_num] at z
  exact z
end TL
end 
namespace L2
open PySem PySem.Spec PyProof.Rows
section
variable {X : Cx} {pins : List (Addr × Obj)} {σ : St} {H : Hp} {s : Shared} {Q : VK}
end
section
variable {X : Cx}
end
section
variable {X : Cx} {o e : Expr} {to te : TE}
end
end L2
namespace L2
open PySem PySem.Spec PyProof.Rows
section
variable {X : Cx}
end
end L2
namespace Att
open PySem PySem.W PySem.Calls PyProof.Rows
section
variable {prog : Program} {w : World} {A : Around} {E : Value → Shared → Prop} {s : Shared} {K : Frag}
end
end Att
namespace L2
open PySem PySem.Spec PyProof.Rows
end L2
namespace L2
open PySem PySem.Spec PyProof.Rows
end L2
/- THE LAST THEOREM (shape; LID, My.* are yours):
   My.Adr: a structure of the addresses that your layer names (classes, functions); My.Txt K t: a structure (Prop) of the equations over K;
   My.txt_mk : {K} {implicit addresses ..} (e1 : nsIn K mainGlobals "law" = some (some (.ref f))) (e2 : K.lookup f = some ⟨oc, od, .func (fnOf "law" "law" params body scope dV kV doc pm an cdv ct), sl⟩) (e3 : codeIn K cdv "law" = true) .. : ∃ t, My.Txt K t
set_option maxRecDepth 100000 in
set_option maxHeartbeats 0 in
theorem PySem.Challenge.cw_LID_holds : PySem.Challenge.rw_LID.Holds := by
  w_on; o_law; k_head; (case hw => w_witness2)
  k_fill
  refine L2.walk_of (l := PySem.Challenge.rw_LID) (n := 63) (k := 40) (x := "script") (CX := fun w => ..) (sp := fun _ => My.sp_law) rfl (by decide) rfl ⟨rfl, by decide, by decide⟩ (fun w h Y => PySem.W.kIn_of Y) ?F ?S ?C
  case F =>
    intro w mg fa h KX G hmg
    have T : ∃ t, My.Txt (L2.KOf KX) t := by
      dsimp only [L2.KOf]                          -- K must stand as «<heap const> w.params» for k_is
      refine' My.txt_mk ?e1 ?e2 ?e3 ..
      (case e1 => PySem.W.k_is)                    -- in the order: a name -> its address -> its object -> its parts
      (case e2 => PySem.W.k_is)
      ..
    obtain ⟨t, T⟩ := T
    have e0 := hmg.symm.trans (PySem.W.mg_of KX G T.law)
    cases e0                                       -- fa is the law's own address
    exact ⟨_, fun s u => .of_eq rfl, fun base kb nb => My.law_fn T kb nb⟩     -- if «.of_eq rfl» comes too early: refine' ⟨_, ?b, fun base kb nb => My.law_fn T kb nb⟩; exact fun s u => .of_eq rfl
  case S => exact fun w H a ns hl hO hS => ..
  case C => exact ..
(the tactic k_is has no namespace: write k_is) -/
namespace L2
open PySem PySem.Spec PyProof.Rows
def inClass (s : Stmt) (j : Nat) : Stmt := match s with
  | .ClassDef _ _ _ body _ _ _ _ _ _ _ => body.getD j (.Pass ⟨0, 0, 0, 0⟩)
  | _ => .Pass ⟨0, 0, 0, 0⟩
def defArgs (s : Stmt) : Arguments := match s with
  | .FunctionDef _ a _ _ _ _ _ _ _ _ => a
  | _ => { posonlyargs := [], args := [], vararg := none, kwonlyargs := [], kw_defaults := [], kwarg := none, defaults := [] }
def defBody (s : Stmt) : List Stmt := match s with
  | .FunctionDef _ _ b _ _ _ _ _ _ _ => b
  | _ => []
def defScope (s : Stmt) : Scope := match s with
  | .FunctionDef _ _ _ _ _ _ sc _ _ _ => sc
  | _ => { kind := .function, names := [], isGenerator := false, isCoroutine := false }
abbrev E0 : XK := fun _ _ _ => False
structure Fun (K : PySem.W.Frag) (x qual : Str) (st : Stmt) (f : Addr) (fd : FuncData) : Prop where
  ex : ∃ (oc : Value) (od : Option Addr) (kV doc pm : Value) (an : Option Addr) (cdv ct : Value) (osl : Array (Option Value)),
    fd = PySem.W.fnOf x qual (defArgs st) (defBody st) (defScope st) .none kV doc pm an cdv ct ∧ K.lookup f = some ⟨oc, od, .func fd, osl⟩ ∧ PySem.W.codeIn K cdv qual = true
  kp : PySem.W.keepIn K (.ref f) = true
section
variable {P : Program} {w : World} {K : PySem.W.Frag} {mg : Str → Option Value} {base : Heap}
theorem Fun.binds {x qual : Str} {st : Stmt} {f : Addr} {fd : FuncData} {ps : List Str} (F : Fun K x qual st f fd)
    (h : ∀ (kV doc pm : Value) (an : Option Addr) (cdv ct : Value) (us : List Value), us.length = ps.length → bindArgs (PySem.W.fnOf x qual (defArgs st) (defBody st) (defScope st) .none kV doc pm an cdv ct) ⟨us, []⟩ = pure (ps.zip us)) : Binds K fd ps [] := by
  obtain ⟨oc, od, kV, doc, pm, an, cdv, ct, osl, rfl, lk, hcd⟩ := F.ex
  exact .all (h kV doc pm an cdv ct)
theorem fun_mk {x qual : Str} {st : Stmt} {f : Addr} {oc : Value} {od an : Option Addr} {osl : Array (Option Value)} {kV doc pm cdv ct : Value} (l : K.lookup f = some ⟨oc, od, .func (PySem.W.fnOf x qual (defArgs st) (defBody st) (defScope st) .none kV doc pm an cdv ct), osl⟩)
    (c : PySem.W.codeIn K cdv qual = true) (k : PySem.W.keepIn K (.ref f) = true) : Fun K x qual st f (PySem.W.fnOf x qual (defArgs st) (defBody st) (defScope st) .none kV doc pm an cdv ct) := ⟨⟨oc, od, kV, doc, pm, an, cdv, ct, osl, rfl, l, c⟩, k⟩
end
section
variable {X : Cx}
theorem pv (i : Nat) {x : Str} {pos : Pos} (hN : X.N[i]? = some x := by rfl) (hv : Vis X.env.scope x := by first | exact Or.inl rfl | exact Or.inr (Or.inl rfl) | exact Or.inr (Or.inr rfl)) (hd : (x == ("__debug__" : Str)) = false := by decide)
    (hcd : (x == ("__classdict__" : Str)) = false := by decide) : PE X (.Name x pos) (tVar i) := pe_var hN hv hd hcd
end
theorem iteF {A B : Prop} (h : B) : if false = true then A else B := by
  rw [if_neg Bool.false_ne_true]
  exact h
theorem iteT {A B : Prop} (h : A) : if true = true then A else B := by
  rw [if_pos rfl]
  exact h
theorem ite2 {c A B : Prop} [Decidable c] (h1 : c → A) (h2 : ¬ c → B) : if c then A else B := by
  by_cases h : c
  · rw [if_pos h]
    exact h1 h
  · rw [if_neg h]
    exact h2 h
def Same (H H' : Hp) : Prop := ∀ b o, H b = some o → H' b = some o
theorem Same.refl (H : Hp) : Same H H := fun _ _ h => h
theorem Same.trans {H H1 H2 : Hp} (a : Same H H1) (b : Same H1 H2) : Same H H2 := fun c o h => b c o (a c o h)
theorem Same.free {H H' : Hp} (e : Same H H') {l : Addr} (h : H' l = Option.none) : H l = Option.none := by
  cases q : H l with
  | none => rfl
  | some o =>
    rw [e l o q] at h
    cases h
theorem Same.seq {K : PySem.W.Frag} {H H' : Hp} {a : Addr} {xs : List V} (e : Same H H') (h : SqL K H a xs) : SqL K H' a xs := by
  rcases h with (h | ⟨o, h⟩) | h
  · exact .inl (.inl (e _ _ h))
  · exact .inl (.inr ⟨o, e _ _ h⟩)
  · exact .inr h
section
variable {κ : Type} [DecidableEq κ]
end
theorem at_of {xs : List V} {z : Int} {j : Nat} {v : V} (e : z = (j : Int)) (h : xs[j]? = some v) : atI xs z = some v := by
  rw [e]
  exact atI_nat h
end L2
end
section
section
set_option Elab.async false
set_option linter.all false
set_option maxRecDepth 100000
set_option maxHeartbeats 2000000
namespace L2
open PySem PySem.Spec PyProof.Rows
open PySem.W (WData Codec OpenSpec Well WellAll ReadsW ReadsAllW)
mutual
inductive Dw (K : PySem.W.Frag) (H : Hp) : V → WData → Prop
  | non : Dw K H .non .none
  | bl (b : Bool) : Dw K H (.bl b) (.bool b)
  | int (i : Int) : Dw K H (.int i) (.int i)
  | str (x : Str) : Dw K H (.str x) (.str x)
  | byt (b : Array UInt8) : Dw K H (.byt b) (.bytes b.toList)
  | lst {a : Addr} {xs : List V} {ds : List WData} : SqL K H a xs → DwAll K H xs ds → Dw K H (.ref a) (.list ds)
  | tup {a : Addr} {xs : List V} {ds : List WData} : SqT K H a xs → DwAll K H xs ds → Dw K H (.ref a) (.tuple ds)
inductive DwAll (K : PySem.W.Frag) (H : Hp) : List V → List WData → Prop
  | nil : DwAll K H [] []
  | cons {v : V} {vs : List V} {d : WData} {ds : List WData} : Dw K H v d → DwAll K H vs ds → DwAll K H (v :: vs) (d :: ds)
end
theorem dw_ints {K : PySem.W.Frag} {H : Hp} : ∀ ns : List Int, DwAll K H (ns.map V.int) (ns.map WData.int)
  | [] => .nil
  | n :: r => .cons (.int n) (dw_ints r)
theorem ints_dw {K : PySem.W.Frag} {H : Hp} : ∀ (ns : List Int) (xs : List V), DwAll K H xs (ns.map WData.int) → xs = ns.map V.int
  | [], xs, h => by
    cases h
    rfl
  | n :: r, xs, h => by
    cases h with
    | cons h1 h2 =>
      cases h1
      rw [ints_dw r _ h2] <;> rfl
section
variable {P : Program} {w : World} {K : PySem.W.Frag} {H : Hp} {h : Heap} {R : PySem.W.WRecords} {cl : Str → Option Addr}
theorem sqL_at {a : Addr} {xs : List V} (hok : HOk P w H h) (KX : K.In h) (q : SqL K H a xs) : ∃ (its : List Value) (o : Obj) (n : Nat), Vals xs its ∧ h.get? a = some o ∧ o.cls = .type "list" ∧ o.data = .seq its.toArray n := by
  rcases q with q | ⟨o, its, n, e, hc, _, hd, _, hv⟩
  · obtain ⟨_, its, n, hv, e⟩ := (show ObjOk P w H h a (.lst xs) from q.ok hok)
    exact ⟨its, _, n, hv, e, rfl, rfl⟩
  · exact ⟨its.toList, o, n, hv, KX _ _ e, hc, by simp [hd]⟩
theorem sqT_at {a : Addr} {xs : List V} (hok : HOk P w H h) (KX : K.In h) (q : SqT K H a xs) : ∃ (its : List Value) (o : Obj) (n : Nat), Vals xs its ∧ h.get? a = some o ∧ o.cls = .type "tuple" ∧ o.data = .seq its.toArray n := by
  rcases q with q | ⟨o, its, n, e, hc, hd, _, hv⟩
  · obtain ⟨_, its, hv, o, e, hc, n, hd⟩ := (show ObjOk P w H h a (.tup xs) from q.ok hok)
    exact ⟨its, o, n, hv, e, hc, hd⟩
  · exact ⟨its.toList, o, n, hv, KX _ _ e, hc, by simp [hd]⟩
mutual
theorem Dw.reads (hok : HOk P w H h) (KX : K.In h) : ∀ (d : WData) (v : V) (u : Value), Dw K H v d → RelV v u → ∃ as, ReadsW R cl h u d as
  | .none, _, _, x, r => by
    cases x
    cases r
    exact ⟨_, ReadsW.none⟩
  | .bool b, _, _, x, r => by
    cases x
    cases r
    exact ⟨_, ReadsW.bool b⟩
  | .int i, _, _, x, r => by
    cases x
    obtain ⟨t, rfl⟩ := r
    exact ⟨_, ReadsW.int i t⟩
  | .str s, _, _, x, r => by
    cases x
    obtain ⟨t, rfl⟩ := r
    exact ⟨_, ReadsW.str s t⟩
  | .bytes b, _, _, x, r => by
    cases x
    obtain ⟨t, rfl⟩ := r
    exact ⟨_, ReadsW.bytes _ t⟩
  | .list ds, _, _, x, r => by
    cases x with
    | lst hs ha =>
      cases r
      obtain ⟨its, o, n, rv, ho, hc, hd⟩ := sqL_at hok KX hs
      obtain ⟨as, hr⟩ := Dw.readsAll hok KX ds _ its ha rv
      exact ⟨_, ReadsW.list ho hc hd hr⟩
  | .tuple ds, _, _, x, r => by
    cases x with
    | tup hs ha =>
      cases r
      obtain ⟨its, o, n, rv, ho, hc, hd⟩ := sqT_at hok KX hs
      obtain ⟨as, hr⟩ := Dw.readsAll hok KX ds _ its ha rv
      exact ⟨_, ReadsW.tuple ho hc hd hr⟩
  | .float _, _, _, x, _ => by cases x
  | .dict _, _, _, x, _ => by cases x
  | .bytearray _, _, _, x, _ => by cases x
  | .set _, _, _, x, _ => by cases x
  | .frozenset _, _, _, x, _ => by cases x
  | .obj _ _, _, _, x, _ => by cases x
theorem Dw.readsAll (hok : HOk P w H h) (KX : K.In h) : ∀ (ds : List WData) (vs : List V) (us : List Value), DwAll K H vs ds → Vals vs us → ∃ as, ReadsAllW R cl h us ds as
  | [], _, _, x, r => by
    cases x
    cases r
    exact ⟨_, ReadsAllW.nil⟩
  | d :: ds, _, _, x, r => by
    cases x with
    | cons h1 h2 =>
      cases r with
      | cons r1 r2 =>
        obtain ⟨as, q1⟩ := Dw.reads hok KX d _ _ h1 r1
        obtain ⟨bs, q2⟩ := Dw.readsAll hok KX ds _ _ h2 r2
        exact ⟨_, ReadsAllW.cons q1 q2⟩
end
end
mutual
def plW : WData → Bool
  | .none => true
  | .bool _ => true
  | .int _ => true
  | .str _ => true
  | .bytes _ => true
  | .list xs => plWs xs
  | .tuple xs => plWs xs
  | _ => false
def plWs : List WData → Bool
  | [] => true
  | x :: r => plW x && plWs r
end
theorem plWs_map {α : Type} {f : α → WData} (h : ∀ a, plW (f a) = true) : ∀ l : List α, plWs (l.map f) = true
  | [] => rfl
  | x :: r => by
    show (plW (f x) && plWs (r.map f)) = true
    rw [h x, plWs_map h r] <;> rfl
theorem pl_enc : ∀ (c : Codec) (a : c.denote), plW (c.enc a) = true
  | .unit, _ => rfl
  | .bool, _ => rfl
  | .int _ _, _ => rfl
  | .nat _ _, _ => rfl
  | .u8, _ => rfl
  | .bytes _ _, _ => rfl
  | .text _ _ _ _, _ => rfl
  | .list _ _ c, a => plWs_map (fun x => pl_enc c x) a
  | .pair c d, a => by
    show (plW (c.enc a.1) && (plW (d.enc a.2) && true)) = true
    rw [pl_enc c a.1, pl_enc d a.2] <;> rfl
  | .triple c d e, a => by
    show (plW (c.enc a.1) && (plW (d.enc a.2.1) && (plW (e.enc a.2.2) && true))) = true
    rw [pl_enc c a.1, pl_enc d a.2.1, pl_enc e a.2.2] <;> rfl
  | .option c, none => rfl
  | .option c, some x => pl_enc c x
theorem pl_encAll : ∀ (cs : List Codec) (a : Codec.denoteAll cs), plWs (Codec.encAll cs a) = true
  | [], _ => rfl
  | c :: cs, a => by
    show (plW (c.enc a.1) && plWs (Codec.encAll cs a.2)) = true
    rw [pl_enc c a.1, pl_encAll cs a.2] <;> rfl
theorem weight_mem : ∀ {xs : List WData} {d : WData}, d ∈ xs → d.weight ≤ WData.weightAll xs
  | [], d, h => absurd h (by simp)
  | x :: r, d, h => by
    show d.weight ≤ x.weight + 1 + WData.weightAll r
    rcases List.mem_cons.mp h with e | m
    · rw [e]
      omega
    · have z := weight_mem m
      omega
def toV : Value → V
  | .none => .non
  | .bool b => .bl b
  | .int i _ => .int i
  | .str x _ => .str x
  | .bytes b _ => .byt b
  | .ref a => .ref a
  | _ => .non
def OkU (A : List Addr) : Value → Prop
  | .none => True
  | .bool _ => True
  | .int _ _ => True
  | .str _ _ => True
  | .bytes _ _ => True
  | .ref a => a ∈ A
  | _ => False
theorem OkU.mono {A B : List Addr} (h : ∀ a ∈ A, a ∈ B) : ∀ {u : Value}, OkU A u → OkU B u := fun {u} x => by
  cases u with
  | ref a => exact h a x
  | none => trivial
  | bool b => trivial
  | int i t => trivial
  | str s t => trivial
  | bytes b t => trivial
  | _ => exact False.elim x
theorem relV_toV {A : List Addr} {u : Value} (x : OkU A u) : RelV (toV u) u := by
  cases u with
  | ref a => rfl
  | none => rfl
  | bool b => rfl
  | int i t => exact ⟨t, rfl⟩
  | str s t => exact ⟨t, rfl⟩
  | bytes b t => exact ⟨t, rfl⟩
  | _ => exact False.elim x
theorem vals_toV {A : List Addr} : ∀ {vs : List Value}, (∀ u ∈ vs, OkU A u) → Vals (vs.map toV) vs
  | [], _ => .nil
  | u :: r, h => .cons (relV_toV (h u (List.mem_cons_self ..))) (vals_toV fun x hx => h x (List.mem_cons_of_mem _ hx))
def ArgOb (h : Heap) (A : List Addr) (a : Addr) : Prop := ∃ vs : List Value, vs.length ≤ sizeLine ∧ (∀ u ∈ vs, OkU A u) ∧
  (h.get? a = some { cls := .type "list", data := .seq vs.toArray } ∨ h.get? a = some { cls := .type "tuple", data := .seq vs.toArray })
theorem ArgOb.mono {h : Heap} {A B : List Addr} {a : Addr} (k : ∀ a ∈ A, a ∈ B) (x : ArgOb h A a) : ArgOb h B a := by
  obtain ⟨vs, h1, h2, h3⟩ := x
  exact ⟨vs, h1, fun u hu => (h2 u hu).mono k, h3⟩
theorem wellAll_len {P : Params} {h : Heap} : ∀ {vs : List Value} {ds : List WData}, WellAll P h vs ds → vs.length = ds.length
  | _, _, .nil => rfl
  | _, _, .cons _ b => by
    show _ + 1 = _ + 1
    rw [wellAll_len b]
theorem well_list {P : Params} {h : Heap} {v : Value} {ds : List WData} (x : Well P h v (.list ds)) : ∃ (a : Addr) (vs : List Value), v = .ref a ∧ h.get? a = some { cls := .type "list", data := .seq vs.toArray } ∧ WellAll P h vs ds := by
  cases x with
  | list ho hall => exact ⟨_, _, rfl, ho, hall⟩
theorem well_tuple {P : Params} {h : Heap} {v : Value} {ds : List WData} (x : Well P h v (.tuple ds)) : ∃ (a : Addr) (vs : List Value), v = .ref a ∧ h.get? a = some { cls := .type "tuple", data := .seq vs.toArray } ∧ WellAll P h vs ds := by
  cases x with
  | tuple ho hall => exact ⟨_, _, rfl, ho, hall⟩
theorem well_cons {P : Params} {h : Heap} {us : List Value} {d : WData} {ds : List WData} (x : WellAll P h us (d :: ds)) : ∃ (v : Value) (vs : List Value), us = v :: vs ∧ Well P h v d ∧ WellAll P h vs ds := by
  cases x with
  | cons a b => exact ⟨_, _, rfl, a, b⟩
theorem line_of {n : Nat} (h : n ≤ 1048576) : n ≤ sizeLine := Nat.le_trans h (by decide)
section
variable {P : Params} {h : Heap}
mutual
theorem area_one : ∀ (d : WData) (v : Value), Well P h v d → plW d = true → d.weight ≤ 1048576 → ∃ A : List Addr, OkU A v ∧ ∀ a ∈ A, ArgOb h A a
  | .none, _, x, _, _ => by
    cases x
    exact ⟨[], trivial, fun a m => absurd m (by simp)⟩
  | .bool b, _, x, _, _ => by
    cases x
    exact ⟨[], trivial, fun a m => absurd m (by simp)⟩
  | .int i, _, x, _, _ => by
    cases x
    exact ⟨[], trivial, fun a m => absurd m (by simp)⟩
  | .str s, _, x, _, _ => by
    cases x
    exact ⟨[], trivial, fun a m => absurd m (by simp)⟩
  | .bytes b, _, x, _, _ => by
    cases x
    exact ⟨[], trivial, fun a m => absurd m (by simp)⟩
  | .list ds, _, x, p, z => by
    obtain ⟨a, vs, rfl, ho, hall⟩ := well_list x
    have z2 : WData.weightAll ds ≤ 1048576 := z
    obtain ⟨A, h1, h2⟩ := area_all ds _ hall p fun d hd => Nat.le_trans (weight_mem hd) z2
    have k : ∀ b ∈ A, b ∈ a :: A := fun b hb => List.mem_cons_of_mem _ hb
    refine ⟨a :: A, List.mem_cons_self .., fun b hb => ?_⟩
    rcases List.mem_cons.mp hb with e | m
    · rw [e]
      exact ⟨vs, line_of (by rw [wellAll_len hall]; exact Nat.le_trans (PySem.W.length_le_weightAllW ds) z2), fun u hu => (h1 u hu).mono k, .inl ho⟩
    · exact (h2 b m).mono k
  | .tuple ds, _, x, p, z => by
    obtain ⟨a, vs, rfl, ho, hall⟩ := well_tuple x
    have z2 : WData.weightAll ds ≤ 1048576 := z
    obtain ⟨A, h1, h2⟩ := area_all ds _ hall p fun d hd => Nat.le_trans (weight_mem hd) z2
    have k : ∀ b ∈ A, b ∈ a :: A := fun b hb => List.mem_cons_of_mem _ hb
    refine ⟨a :: A, List.mem_cons_self .., fun b hb => ?_⟩
    rcases List.mem_cons.mp hb with e | m
    · rw [e]
      exact ⟨vs, line_of (by rw [wellAll_len hall]; exact Nat.le_trans (PySem.W.length_le_weightAllW ds) z2), fun u hu => (h1 u hu).mono k, .inr ho⟩
    · exact (h2 b m).mono k
  | .float _, _, _, p, _ => Bool.noConfusion (show false = true from p)
  | .dict _, _, _, p, _ => Bool.noConfusion (show false = true from p)
  | .bytearray _, _, _, p, _ => Bool.noConfusion (show false = true from p)
  | .set _, _, _, p, _ => Bool.noConfusion (show false = true from p)
  | .frozenset _, _, _, p, _ => Bool.noConfusion (show false = true from p)
  | .obj _ _, _, _, p, _ => Bool.noConfusion (show false = true from p)
theorem area_all : ∀ (ds : List WData) (vs : List Value), WellAll P h vs ds → plWs ds = true → (∀ d ∈ ds, d.weight ≤ 1048576) → ∃ A : List Addr, (∀ u ∈ vs, OkU A u) ∧ ∀ a ∈ A, ArgOb h A a
  | [], _, x, _, _ => by
    cases x
    exact ⟨[], fun u m => absurd m (by simp), fun a m => absurd m (by simp)⟩
  | d :: ds, _, x, p, z => by
    obtain ⟨v, vs, rfl, x1, x2⟩ := well_cons x
    have q : plW d = true ∧ plWs ds = true := Bool.and_eq_true_iff.mp p
    obtain ⟨A, a1, a2⟩ := area_one d v x1 q.1 (z d (List.mem_cons_self ..))
    obtain ⟨B, b1, b2⟩ := area_all ds vs x2 q.2 fun e he => z e (List.mem_cons_of_mem _ he)
    have kA : ∀ b ∈ A, b ∈ A ++ B := fun b hb => List.mem_append.mpr (.inl hb)
    have kB : ∀ b ∈ B, b ∈ A ++ B := fun b hb => List.mem_append.mpr (.inr hb)
    refine ⟨A ++ B, fun u hu => ?_, fun b hb => ?_⟩
    · rcases List.mem_cons.mp hu with e | m
      · rw [e]
        exact a1.mono kA
      · exact (b1 u m).mono kB
    · rcases List.mem_append.mp hb with m | m
      · exact (a2 b m).mono kA
      · exact (b2 b m).mono kB
end
end
def hoOf (o : Obj) : Option HO := match o.data with
  | .seq vs _ => if (o.cls == Value.type "list") = true then some (.frz o (.lst (vs.toList.map toV))) else some (.frz o (.tup (vs.toList.map toV)))
  | _ => none
def argH (K : PySem.W.Frag) (h : Heap) (A : List Addr) : Hp := fun b => if b ∈ A then (if (K.lookup b).isNone = true then (h.get? b).bind hoOf else none) else none
def OnlyF (H : Hp) : Prop := ∀ b, H b = none ∨ ∃ o u, H b = some (.frz o u)
theorem hoOf_lst (vs : List Value) : hoOf { cls := .type "list", data := .seq vs.toArray } = some (.frz { cls := .type "list", data := .seq vs.toArray } (.lst (vs.map toV))) := by
  show (if (Value.type "list" == Value.type "list") = true then some (HO.frz { cls := .type "list", data := .seq vs.toArray } (.lst (vs.toArray.toList.map toV))) else some (HO.frz { cls := .type "list", data := .seq vs.toArray } (.tup (vs.toArray.toList.map toV)))) = _
  rw [if_pos (beq_self_eq_true _)]
theorem hoOf_tup (vs : List Value) : hoOf { cls := .type "tuple", data := .seq vs.toArray } = some (.frz { cls := .type "tuple", data := .seq vs.toArray } (.tup (vs.map toV))) := by
  show (if (Value.type "tuple" == Value.type "list") = true then some (HO.frz { cls := .type "tuple", data := .seq vs.toArray } (.lst (vs.toArray.toList.map toV))) else some (HO.frz { cls := .type "tuple", data := .seq vs.toArray } (.tup (vs.toArray.toList.map toV)))) = _
  rw [if_neg (by decide)]
section
variable {P : Program} {w : World} {K : PySem.W.Frag} {h : Heap} {A : List Addr}
theorem argH_at {b : Addr} {o : Obj} (hb : b ∈ A) (hk : K.lookup b = none) (e : h.get? b = some o) : argH K h A b = hoOf o := by
  unfold argH
  rw [if_pos hb, hk, if_pos (show (none : Option Obj).isNone = true from rfl), e] <;> rfl
theorem of_argH {b : Addr} {u : HO} (q : argH K h A b = some u) : b ∈ A ∧ K.lookup b = none := by
  unfold argH at q
  by_cases hb : b ∈ A
  · rw [if_pos hb] at q
    cases hk : K.lookup b with
    | none => exact ⟨hb, rfl⟩
    | some o =>
      rw [hk, if_neg (by simp)] at q
      cases q
  · rw [if_neg hb] at q
    cases q
theorem argH_is (ar : ∀ a ∈ A, ArgOb h A a) {b : Addr} {u : HO} (q : argH K h A b = some u) : K.lookup b = none ∧ ∃ vs : List Value, vs.length ≤ sizeLine ∧ (∀ u ∈ vs, OkU A u) ∧
    ((h.get? b = some { cls := .type "list", data := .seq vs.toArray } ∧ u = .frz { cls := .type "list", data := .seq vs.toArray } (.lst (vs.map toV))) ∨
     (h.get? b = some { cls := .type "tuple", data := .seq vs.toArray } ∧ u = .frz { cls := .type "tuple", data := .seq vs.toArray } (.tup (vs.map toV)))) := by
  obtain ⟨hb, hk⟩ := of_argH q
  obtain ⟨vs, h1, h2, h3⟩ := ar b hb
  refine ⟨hk, vs, h1, h2, ?_⟩
  rcases h3 with e | e
  · rw [argH_at hb hk e, hoOf_lst] at q
    exact .inl ⟨e, (Option.some.inj q).symm⟩
  · rw [argH_at hb hk e, hoOf_tup] at q
    exact .inr ⟨e, (Option.some.inj q).symm⟩
theorem argH_only (ar : ∀ a ∈ A, ArgOb h A a) : OnlyF (argH K h A) := fun b => by
  cases q : argH K h A b with
  | none => exact .inl rfl
  | some u =>
    obtain ⟨_, vs, _, _, ⟨_, e⟩ | ⟨_, e⟩⟩ := argH_is ar q
    · exact .inr ⟨_, _, by rw [e]⟩
    · exact .inr ⟨_, _, by rw [e]⟩
theorem argH_ok (ar : ∀ a ∈ A, ArgOb h A a) : HOk P w (argH K h A) h := fun b u q => by
  obtain ⟨_, vs, h1, h2, ⟨e, rfl⟩ | ⟨e, rfl⟩⟩ := argH_is ar q
  · exact ⟨e, by rw [List.length_map]; exact h1, vs, _, vals_toV h2, e⟩
  · exact ⟨e, by rw [List.length_map]; exact h1, vs, vals_toV h2, _, e, rfl, _, rfl⟩
theorem seq_inj {c c' : Value} {vs us : List Value} (e : (some { cls := c, data := .seq vs.toArray } : Option Obj) = some { cls := c', data := .seq us.toArray }) : c = c' ∧ vs = us := by
  have e1 := Option.some.inj e
  have e2 : c = c' := congrArg Obj.cls e1
  have e3 : Data.seq vs.toArray = Data.seq us.toArray := congrArg Obj.data e1
  injection e3 with e4
  refine ⟨e2, ?_⟩
  have e5 := congrArg Array.toList e4
  simpa using e5
theorem argL (KX : K.In h) (ar : ∀ a ∈ A, ArgOb h A a) {a : Addr} {vs : List Value} (ha : a ∈ A) (e : h.get? a = some { cls := .type "list", data := .seq vs.toArray }) : (∀ u ∈ vs, OkU A u) ∧ SqL K (argH K h A) a (vs.map toV) := by
  obtain ⟨us, h1, h2, h3⟩ := ar a ha
  have hu : us = vs := by
    rcases h3 with q | q
    · rw [e] at q
      exact (seq_inj q).2.symm
    · rw [e] at q
      exact absurd (Value.type.inj (seq_inj q).1) (by decide)
  subst hu
  refine ⟨h2, ?_⟩
  cases hk : K.lookup a with
  | none => exact .inl (.inr ⟨_, by rw [argH_at ha hk e, hoOf_lst]⟩)
  | some o =>
    have e2 := KX a o hk
    rw [e] at e2
    obtain rfl := Option.some.inj e2
    exact .inr ⟨_, us.toArray, _, hk, rfl, rfl, rfl, by rw [List.size_toArray]; exact h1, by simpa using vals_toV h2⟩
theorem argT (KX : K.In h) (ar : ∀ a ∈ A, ArgOb h A a) {a : Addr} {vs : List Value} (ha : a ∈ A) (e : h.get? a = some { cls := .type "tuple", data := .seq vs.toArray }) : (∀ u ∈ vs, OkU A u) ∧ SqT K (argH K h A) a (vs.map toV) := by
  obtain ⟨us, h1, h2, h3⟩ := ar a ha
  have hu : us = vs := by
    rcases h3 with q | q
    · rw [e] at q
      exact absurd (Value.type.inj (seq_inj q).1) (by decide)
    · rw [e] at q
      exact (seq_inj q).2.symm
  subst hu
  refine ⟨h2, ?_⟩
  cases hk : K.lookup a with
  | none => exact .inl (.inr ⟨_, by rw [argH_at ha hk e, hoOf_tup]⟩)
  | some o =>
    have e2 := KX a o hk
    rw [e] at e2
    obtain rfl := Option.some.inj e2
    exact .inr ⟨_, us.toArray, _, hk, rfl, rfl, by rw [List.size_toArray]; exact h1, by simpa using vals_toV h2⟩
mutual
theorem dw_one {Pm : Params} (KX : K.In h) (ar : ∀ a ∈ A, ArgOb h A a) : ∀ (d : WData) (v : Value), Well Pm h v d → plW d = true → OkU A v → Dw K (argH K h A) (toV v) d
  | .none, _, x, _, _ => by
    cases x
    exact .non
  | .bool b, _, x, _, _ => by
    cases x
    exact .bl b
  | .int i, _, x, _, _ => by
    cases x
    exact .int i
  | .str s, _, x, _, _ => by
    cases x
    exact .str s
  | .bytes b, _, x, _, _ => by
    cases x
    have z := Dw.byt (K := K) (H := argH K h A) b.toArray
    exact z
  | .list ds, _, x, p, hu => by
    obtain ⟨a, vs, rfl, ho, hall⟩ := well_list x
    obtain ⟨h2, hs⟩ := argL KX ar hu ho
    exact .lst hs (dw_all KX ar ds _ hall p h2)
  | .tuple ds, _, x, p, hu => by
    obtain ⟨a, vs, rfl, ho, hall⟩ := well_tuple x
    obtain ⟨h2, hs⟩ := argT KX ar hu ho
    exact .tup hs (dw_all KX ar ds _ hall p h2)
  | .float _, _, _, p, _ => Bool.noConfusion (show false = true from p)
  | .dict _, _, _, p, _ => Bool.noConfusion (show false = true from p)
  | .bytearray _, _, _, p, _ => Bool.noConfusion (show false = true from p)
  | .set _, _, _, p, _ => Bool.noConfusion (show false = true from p)
  | .frozenset _, _, _, p, _ => Bool.noConfusion (show false = true from p)
  | .obj _ _, _, _, p, _ => Bool.noConfusion (show false = true from p)
theorem dw_all {Pm : Params} (KX : K.In h) (ar : ∀ a ∈ A, ArgOb h A a) : ∀ (ds : List WData) (vs : List Value), WellAll Pm h vs ds → plWs ds = true → (∀ u ∈ vs, OkU A u) → DwAll K (argH K h A) (vs.map toV) ds
  | [], _, x, _, _ => by
    cases x
    exact .nil
  | d :: ds, _, x, p, hu => by
    obtain ⟨v, vs, rfl, x1, x2⟩ := well_cons x
    have q : plW d = true ∧ plWs ds = true := Bool.and_eq_true_iff.mp p
    exact .cons (dw_one KX ar d v x1 q.1 (hu _ (List.mem_cons_self ..))) (dw_all KX ar ds vs x2 q.2 fun u m => hu u (List.mem_cons_of_mem _ m))
end
end
theorem spec_call {P : Program} {w : World} {K : PySem.W.Frag} {mg mb : Str → Option Value} {CX : CXT} {k : Nat} {fa : Addr} {fd : FuncData} {ps : List Str} {sp : Sp} {s₁ : Shared} {vals : List Value} {ds : List WData} {R : PySem.W.WRecords} {cl : Str → Option Addr} {d0 : WData}
    (KX : K.In s₁.heap) (hns : s₁.heap.Ns mainGlobals mg) (hb : s₁.heap.Ns builtinsNs mb) (hbb : ∀ x : Str, x ≠ "__name__" → mb x = bootBuiltins x) (hlim : s₁.heap.NoLimit) (hg : s₁.gens = #[])
    (hwl : WellAll w.params s₁.heap vals ds) (hpl : plWs ds = true) (hwt : ∀ d ∈ ds, d.weight ≤ 1048576) (hr : Room k callerA)
    (F : ∀ base : Heap, K.In base → base.Ns mainGlobals mg → FnOk P w K mg base CX k fa fd ps sp) (hbind : ∀ (s : Shared) (us : List Value), us.length = ps.length → BindsTo s fd ⟨us, []⟩ (ps.zip us)) (hlen : ds.length = ps.length)
    (hsp : ∀ (H : Hp) (xs : List V), OnlyF H → DwAll K H xs ds → sp xs H (fun v H' => Dw K H' v d0) fun _ _ _ => False)
    (hCX : ∀ H e s', CX [] H s₁ (fun _ _ _ => False) e s' → False) :
    codeAny (model P w) callerA (.call (.ref fa) ⟨vals, []⟩) (fun r s' => ∃ u as, r = .ok (.ret u) ∧ ReadsW R cl s'.heap u d0 as ∧ OldK s₁.heap s'.heap ∧ s'.os = s₁.os ∧ AllBare s'.gens) s₁ := by
  obtain ⟨A, ho, ar⟩ := area_all ds vals hwl hpl hwt
  have hO : OnlyF (argH K s₁.heap A) := argH_only ar
  have hok : HOk P w (argH K s₁.heap A) s₁.heap := argH_ok ar
  have hS := dw_all KX ar ds vals hwl hpl ho
  have hV := vals_toV ho
  have hK : ∀ b u, argH K s₁.heap A b = some u → K.lookup b = none := fun b u q => (argH_is ar q).1
  have noA : ∀ {b : Addr} {o : Obj} {es : Array DictEntry} {ep : Nat}, s₁.heap.get? b = some o → o.data = .dict es ep → argH K s₁.heap A b = none := fun {b o es ep} e d => by
    cases q : argH K s₁.heap A b with
    | none => rfl
    | some u =>
      obtain ⟨_, vs, _, _, ⟨e2, _⟩ | ⟨e2, _⟩⟩ := argH_is ar q
      · rw [e2] at e
        cases e
        have d' : Data.seq vs.toArray _ = Data.dict es ep := d
        cases d'
      · rw [e2] at e
        cases e
        have d' : Data.seq vs.toArray _ = Data.dict es ep := d
        cases d'
  generalize argH K s₁.heap A = H at hO hok hS hK noA
  have base_of : ∀ {b : Addr} {o : Obj}, s₁.heap.get? b = some o → H b = none → (hidT s₁.heap H).get? b = some o := fun e n => hidT_get e n
  have nsK : ∀ {b : Addr} {m : Str → Option Value}, s₁.heap.Ns b m → (hidT s₁.heap H).Ns b m := fun {b m} ⟨o, es, ep, e, d, r⟩ => ⟨o, es, ep, base_of e (noA e d), d, r⟩
  have nK : ∀ b o, K.lookup b = some o → H b = none := fun b o e => by
    cases q : H b with
    | none => rfl
    | some u =>
      rw [hK b u q] at e
      cases e
  have hKb : K.In (hidT s₁.heap H) := fun b o e => base_of (KX b o e) (nK b o e)
  have hM : Mod K mg (hidT s₁.heap H) := ⟨hKb, nsK hns, ⟨mb, nsK hb, hbb⟩, let ⟨mc, h1, h2⟩ := hlim; ⟨mc, nsK h1, h2⟩⟩
  have e0 : Env0 P w K mg (hidT s₁.heap H) callerA [] s₁ H := ⟨rfl, hM, fun b o e => of_hidT e, Nat.le_of_eq (hidT_size _ _), trivial, fun b hb => absurd (show b ∈ ([] : List Addr) from hb) (by simp), hok, .of_eq hg⟩
  have hl : vals.length = ps.length := by rw [wellAll_len hwl]; exact hlen
  refine codeAny_mono ((F _ hKb (nsK hns)).run callerA [] s₁ H ⟨vals, []⟩ vals (vals.map toV) _ _ hr e0 (hbind s₁ vals hl) hV (hsp H _ hO hS)) fun r s' x => ?_
  cases r with
  | error e => exact (hCX H e s' x).elim
  | ok fl =>
    cases fl with
    | next => exact False.elim x
    | brk => exact False.elim x
    | cont => exact False.elim x
    | ret u =>
      obtain ⟨v, H', os, bare, un, hok', r', q⟩ := x
      have kept : ∀ b o, s₁.heap.get? b = some o → s'.heap.get? b = some o := fun b o e => by
        cases q2 : H b with
        | none => exact un.keep b o e q2 (by intro z; exact absurd (show b ∈ ([] : List Addr) from z) (by simp)) (by simp)
        | some u2 =>
          rcases hO b with z | ⟨ob, u3, z⟩
          · rw [q2] at z
            cases z
          · have z2 := un.frzs b ob _ z
            obtain ⟨e1, _⟩ := hok b _ z
            obtain ⟨e2, _⟩ := hok' b _ z2
            rw [e] at e1
            cases e1
            exact e2
      have KX' : K.In s'.heap := fun b o e => kept b o (KX b o e)
      obtain ⟨as, hrd⟩ := Dw.reads (R := R) (cl := cl) hok' KX' d0 v u q r'
      exact ⟨u, as, rfl, hrd, OldK.of_keep kept, os, bare⟩
theorem layable_weight {ds : List WData} (h : WData.layableAll ds = true) : ∀ d ∈ ds, d.weight ≤ 1048576 := fun d hd =>
  (PySem.W.layableW_iff.mp (List.all_eq_true.mp h d hd)).2.2
theorem encAll_len : ∀ (cs : List Codec) (a : Codec.denoteAll cs), (Codec.encAll cs a).length = cs.length
  | [], _ => rfl
  | c :: cs, a => by
    show (Codec.encAll cs a.2).length + 1 = cs.length + 1
    rw [encAll_len cs a.2]
theorem walk_spec {r : OpenSpec} {k : Nat} {q : Program} {loose : List Str} {XP : (Str → Option Value) → Heap → Prop} {YP : World → Heap → Prop} {d : DefRec} {K : Params → PySem.W.Frag} {CX : World → CXT} {ps : List Str} {sp : World → Sp}
    (hwell : r.wellSaid = true) (hdf : d.params.defaults = []) (hlen : r.args.length = ps.length) (hr : Room k callerA)
    (hY : ∀ (w : World) (h : Heap), YP w h → (K w.params).In h)
    (F : ∀ (w : World) (mg : Str → Option Value) (fa : Addr) (h : Heap), YP w h → (K w.params).In h → h.Ns mainGlobals mg → mg d.name = some (.ref fa) →
      ∃ fd : FuncData, (∀ (s : Shared) (us : List Value), us.length = ps.length → BindsTo s fd ⟨us, []⟩ (ps.zip us)) ∧
        ∀ base : Heap, (K w.params).In base → base.Ns mainGlobals mg → FnOk r.prog w (K w.params) mg base (CX w) k fa fd ps (sp w))
    (hsp : ∀ (w : World) (H : Hp) (xs : List V) (a : Codec.denoteAll r.args), OnlyF H → Codec.withinAll r.args a = true → Codec.app r.args r.asked a = true → DwAll (K w.params) H xs (Codec.encAll r.args a) →
      sp w xs H (fun v H' => Dw (K w.params) H' v (r.ret.enc (Codec.app r.args r.f a))) fun _ _ _ => False)
    (hCX : ∀ (w : World) (H : Hp) (s : Shared) (e : Value) (s' : Shared), CX w [] H s (fun _ _ _ => False) e s' → False) :
    PySem.W.WalkOS q loose XP YP r d [] (fun f vs => PySem.call f vs) := by
  intro w s_0 s₁ mg mb G Y fa o pm cd doc dV kV ho hd hcd hD hmg hg args vals as hpre hlay hrd hwl hlo
  obtain ⟨a, e1, e2⟩ := PySem.W.os_pre_some hpre
  obtain ⟨e3, hwi⟩ := Codec.encAll_of_decAll r.args args a e1
  subst e3
  have KX := hY w _ Y
  obtain ⟨fd, hb, hF⟩ := F w mg fa _ Y KX G.T.g hmg
  refine PySem.W.enter_call (codeAny_mono (spec_call (R := []) (cl := classAt s_0.heap) (d0 := r.ret.enc (Codec.app r.args r.f a)) KX G.T.g G.T.b G.T.builtins G.T.nolimit hg hwl (pl_encAll _ _) (layable_weight hlay) hr hF hb (by rw [encAll_len]; exact hlen)
    (fun H xs hO hS => hsp w H xs a hO hwi e2 hS) fun H e s' => hCX w H s₁ e s') fun r' s' hq => ?_)
  obtain ⟨u, as', rfl, h1, h2, h3, h4⟩ := hq
  exact ⟨.inl ⟨u, _, as', rfl, fun _ => rfl, h1, (OpenSpec.post_iff hwell hwi _ _).mpr rfl, fun z => Bool.noConfusion (show false = true from z)⟩, h2, h3, h4⟩
end L2
end
end
section
set_option Elab.async false
set_option maxRecDepth 100000
set_option maxHeartbeats 4000000
set_option linter.all false
namespace XL
open PySem
section
variable {prog : Program} {w : World} {A : Around} {R : Result → Shared → Prop} {I : Addr} {fp wr : List Addr} {n : Nat} {P : Nat → Value → Prop} {St : Nat → Heap → Prop}
theorem maxd_loop (W : Walks prog w A.in1 I fp wr n P St) (bt : Nat → Nat → Bool) (hcmp : CmpOf prog w A.in1 .Gt P bt) (S : Addr) (hSf : S ∉ fp) (dn : Str) (dv : Value) :
    ∀ (k j : Nat) (s : Shared) (old : List Value) (c : Nat), n - j = k → j ≤ n → St j s.heap → ((old = [] ∧ j = 0) ∨ ∃ vb m, j = m + 1 ∧ old = [vb, vb] ∧ P (argBest bt m) vb) →
    s.heap.get? S = some { cls := .type "list", dict := none, data := .seq old.toArray c, slots := #[] } →
    (∀ v h' tk, ((n = 0 ∧ v = dv) ∨ (0 < n ∧ P (argBest bt (n - 1)) v)) → (∀ b o, b ∉ wr → b ≠ S → s.heap.get? b = some o → h'.get? b = some o) → R (.ok (.ret v)) { s with heap := h', toks := tk }) →
    codeAny (model prog w) A (.builtin "max.loop" ⟨[.ref I, .none, .ref S], [(dn, dv)]⟩) R s := by
  have nSw : S ∉ wr := fun h => hSf (W.sub _ h)
  have nm : (toString "max" ++ toString ".loop" : String) = "max.loop" := by decide
  intro k
  induction k with
  | zero =>
    intro j s old c hk hj hst ho hS hR
    obtain rfl : j = n := by omega
    refine codeAny_builtin F.entry_max_loop ?_
    rw [Around.under_plainId F.plain_max_loop _]
    show wpAny _ A.in1 (seqItems? (.ref S) >>= _) _ _ s
    refine wpAny_bind (wpAny_seqItems hS rfl ?_)
    show wpAny _ A.in1 (tryCatch (pyNext (.ref I)) _ >>= _) _ _ s
    refine wpAny_bind (wpAny_tryCatch (W.done s _ _ hst fun h' tk hk' => ?_))
    rcases ho with ⟨rfl, rfl⟩ | ⟨vb, m, rfl, rfl, hP⟩
    · refine wpAny_bind (wpAny_rule (wpAny_pure ?_))
      exact hR dv _ tk (.inl ⟨rfl, rfl⟩) fun b o hb _ e => hk' b o hb e
    · have hS' := hk' S _ nSw hS
      show wpAny _ A.in1 (updateSeq S (fun _ => #[]) >>= _) _ _ _
      refine wpAny_bind (wpAny_updateSeq hS' rfl (wpAny_bind (wpAny_letGo (wpAny_pure ?_))))
      exact hR vb _ tk (.inr ⟨by omega, hP⟩) fun b o hb hbS e => (Heap.get?_update_other _ _ (Ne.symm hbS)).trans (hk' b o hb e)
  | succ k ih =>
    intro j s old c hk hj hst ho hS hR
    have hlt : j < n := by omega
    refine codeAny_builtin F.entry_max_loop ?_
    rw [Around.under_plainId F.plain_max_loop _]
    show wpAny _ A.in1 (seqItems? (.ref S) >>= _) _ _ s
    refine wpAny_bind (wpAny_seqItems hS rfl ?_)
    show wpAny _ A.in1 (tryCatch (pyNext (.ref I)) _ >>= _) _ _ s
    refine wpAny_bind (wpAny_tryCatch (W.item j s _ _ hlt hst fun v h' tk hP hst' hk' => ?_))
    have hS' := hk' S _ nSw hS
    rcases ho with ⟨rfl, rfl⟩ | ⟨vb, m, rfl, rfl, hPb⟩
    · show wpAny _ A.in1 (updateSeq S (fun _ => #[v, v]) >>= _) _ _ _
      refine wpAny_bind (wpAny_updateSeq hS' rfl ?_)
      rw [nm]
      refine wpAny_pure ⟨plainId_quiet F.plain_max_loop _, ih 1 _ [v, v] _ (by omega) (by omega) (W.frame _ _ _ hst' fun b hb o e => ?_) (.inr ⟨v, 0, rfl, rfl, hP⟩) (Heap.get?_update_self _ hS' rfl) fun v' h'' tk'' hP' hk'' => ?_⟩
      · exact (Heap.get?_update_other _ _ (fun z : S = b => hSf (z ▸ hb))).trans e
      · exact hR v' h'' tk'' hP' fun b o hb hbS e => hk'' b o hb hbS ((Heap.get?_update_other _ _ (Ne.symm hbS)).trans (hk' b o hb e))
    · show wpAny _ A.in1 (tryCatch (holding [v, v] (richCompare .Gt v vb >>= _)) _ >>= _) _ _ _
      refine wpAny_bind (wpAny_tryCatch (wpAny_holding (wpAny_bind (hcmp (m + 1) (argBest bt m) v vb _ _ _ hP hPb ?_))))
      refine wpAny_bind (wpAny_holding (wpAny_truthy_bool (wpAny_bind (wpAny_letGo (wpAny_pure ?_)))))
      cases hb : bt (m + 1) (argBest bt m) with
      | true =>
        simp only [if_true]
        refine wpAny_bind (wpAny_updateSeq hS' rfl (wpAny_bind (wpAny_letGo ?_)))
        rw [nm]
        refine wpAny_pure ⟨plainId_quiet F.plain_max_loop _, ih (m + 2) _ [v, v] _ (by omega) (by omega) (W.frame _ _ _ hst' fun b hb o e => ?_) (.inr ⟨v, m + 1, rfl, rfl, by simp only [argBest, hb, if_true]; exact hP⟩) (Heap.get?_update_self _ hS' rfl) fun v' h'' tk'' hP' hk'' => ?_⟩
        · exact (Heap.get?_update_other _ _ (fun z : S = b => hSf (z ▸ hb))).trans e
        · exact hR v' h'' tk'' hP' fun b o hb hbS e => hk'' b o hb hbS ((Heap.get?_update_other _ _ (Ne.symm hbS)).trans (hk' b o hb e))
      | false =>
        simp only [Bool.false_eq_true, if_false]
        refine wpAny_bind (wpAny_letGo ?_)
        rw [nm]
        refine wpAny_pure ⟨plainId_quiet F.plain_max_loop _, ih (m + 2) _ [vb, vb] c (by omega) (by omega) hst' (.inr ⟨vb, m + 1, rfl, rfl, by simp only [argBest, hb, Bool.false_eq_true, if_false]; exact hPb⟩) hS' fun v' h'' tk'' hP' hk'' => ?_⟩
        exact hR v' h'' tk'' hP' fun b o hb hbS e => hk'' b o hb hbS (hk' b o hb e)
end
theorem args_maxd (a d : Value) : argsOk "max" ⟨[a], [("default", d)]⟩ := by unfold argsOk; kernel_rfl
section
variable {prog : Program} {w : World} {A : Around} {E : Value → Shared → Prop} {s : Shared} {l : Addr} {xs : Array (Int × Tok)}
theorem maxd_ints {Q : Value → Shared → Prop} {dv : Value} (hh : A.handled = none) (hl : s.heap.IsList l (intItems xs))
    (h : ∀ v h' tk, ((xs.size = 0 ∧ v = dv) ∨ (0 < xs.size ∧ (intItems xs)[argBest (fun i j => decide (numAt xs i > numAt xs j)) (xs.size - 1)]? = some v)) → (∀ b o, s.heap.get? b = some o → h'.get? b = some o) → Q v { s with heap := h', toks := tk }) :
    wpAny (model prog w) A (call (.builtin "max") [.ref l] [("default", dv)]) Q E s := by
  have nm : (toString "max" ++ toString ".loop" : String) = "max.loop" := by decide
  refine wpAny_call (codeAny_call_builtin F.plain_max F.entry_max ?_)
  have fin : wpAny (model prog w) A.in1 (Builtin.«max» ⟨[.ref l], [("default", dv)]⟩) (fun fin s' => match fin with
      | .done f => (match (Except.ok f : Result) with | .ok (.ret v) => Q v s' | .ok _ => False | .error e => E e s')
      | .again c' => c'.quiet = true ∧ codeAny (model prog w) A c' (fun r s' => match r with | .ok (.ret v) => Q v s' | .ok _ => False | .error e => E e s') s') E s := by
    show wpAny _ A.in1 (Builtin.Builtins.bindParams "max" ["key", "default"] 0 ⟨[], [("default", dv)]⟩ >>= _) _ _ s
    refine wpAny_bind (wpAny_of_eq (show Builtin.Builtins.bindParams "max" ["key", "default"] 0 ⟨[], [("default", dv)]⟩ = pure [none, some dv] from rfl) ?_)
    refine wpAny_bind (wpAny_pure (wpAny_bind (iter_intList hl fun s2 e st hfp hlI => ?_)))
    subst e
    refine wpAny_bind (wpAny_newObj_type ?_)
    rw [nm]
    have W := Walks.list (prog := prog) (w := w) (A := A.in1) hh s.heap.objs.size l hlI (intItems xs)
    refine wpAny_pure ⟨plainId_quiet F.plain_max_loop _, maxd_loop W (fun i j => decide (numAt xs i > numAt xs j)) (CmpOf.ints_gt (numAt xs) fun _ _ => intItems_at) _ (fun hm => Nat.lt_irrefl _ (hfp _ hm)) "default" dv _ 0 _ [] 0 rfl (Nat.zero_le _)
      (W.frame _ _ _ st fun b _ o e => Heap.get?_push_of_some _ e) (.inl ⟨rfl, rfl⟩) (Heap.get?_push_size _ rfl) fun v h' tk hP hk => ?_⟩
    refine h v h' tk (by simpa [intItems] using hP) (old_kept fun b o hb e => hk b o hb (Nat.ne_of_lt (Heap.lt_size e)) (Heap.get?_push_of_some _ e))
  simp only [checkBuiltinCall, F.kind_max]
  cases hsig : Manifest.signature? "max" with
  | none => exact wpAny_pure fin
  | some sig =>
    have ha' : Bind.checkArgs "max" sig ⟨[.ref l], [("default", dv)]⟩ = pure () := by simpa only [argsOk, hsig] using args_maxd (.ref l) dv
    simp only [ha']
    exact wpAny_pure fin
end
end XL
namespace XL
open PySem PySem.Spec PyProof.Rows L2
def tMaxD (K : PySem.W.Frag) (ta tk : TA) : TE := fun σ H Q => ta σ H fun vs H1 => tk σ H1 fun zs H2 => ∃ (a : Addr) (ns : List Int) (d : Int), vs = [.ref a] ∧ zs = [.int d] ∧ SqL K H2 a (ns.map V.int) ∧ ∀ m, ((ns = [] ∧ m = d) ∨ (m ∈ ns ∧ ∀ y ∈ ns, y ≤ m)) → Q (.int m) H2
theorem pe_maxd {X : Cx} {e dx : Expr} {ta tk : TA} {p kp pos : Pos} (calm : X.calm = true) (hg : Gl X "max") (hm : X.mg "max" = none) (ha : PA X [e] ta) (hk : PK X [⟨some "default", dx, kp⟩] tk) (hst : starEach [e] X.env = [(false, eval e X.env)] := by rfl) :
    PE X (.Call (.Name "max" p) [e] [⟨some "default", dx, kp⟩] pos) (tMaxD X.K ta tk) := by
  intro pins s σ H Q I h
  refine wpAny_Call_Name_kw (ld_blt I hg hm (u := .builtin "max") (by decide +kernel) ?_ (by decide) (by decide))
  refine PyProof.Rows.callWith_kw ?_ (by rw [hst]; rfl) (by rw [hst]; rfl)
  refine thn (ha pos pins s σ H _ I h) fun us s1 ⟨vs, H1, I1, r1, q1⟩ => ?_
  refine thn (hk pos pins s1 σ H1 _ I1 q1) fun ws s2 ⟨zs, H2, I2, r2, a, ns, d, e1, e2, hs, q2⟩ => ?_
  subst e1 e2
  obtain rfl := Vals.ref1 r1
  obtain ⟨wd, rfl, td, rfl⟩ : ∃ wd, ws = [wd] ∧ ∃ t, wd = Value.int d t := by
    obtain ⟨u, e, r⟩ := Vals.one r2
    exact ⟨u, e, r⟩
  show wpAny _ _ (call (.builtin "max") [.ref a] [("default", Value.int d td)]) _ _ _
  obtain ⟨its, rv, hl, hz⟩ := I2.list hs
  have hi := Vals.ints rv
  obtain ⟨xs, e⟩ := hi.allInts.items
  have hn : numsOf (intItems xs).toList = ns := by rw [← e]; exact hi.numsOf
  rw [nums_intItems] at hn
  have hlen : xs.size = ns.length := by rw [← hn, List.length_map, Array.length_toList]
  have hll : s2.heap.IsList a (intItems xs) := by rw [← e]; exact hl.isList
  refine maxd_ints (I2.ok.hd calm) hll fun v h' tk hv kp' => ?_
  have fin : ∀ m t, ((ns = [] ∧ m = d) ∨ (m ∈ ns ∧ ∀ y ∈ ns, y ≤ m)) → EP X pins σ Q (.int m t) { s2 with heap := h', toks := tk } := fun m t hm => ⟨.int m, H2, I2.kept (t' := tk) kp', ⟨t, rfl⟩, q2 m hm⟩
  rcases hv with ⟨h0, rfl⟩ | ⟨h0, hv⟩
  · exact fin d td (.inl ⟨List.length_eq_zero_iff.mp (hlen.symm.trans h0), rfl⟩)
  · obtain ⟨t, rfl⟩ := intItems_at hv
    obtain ⟨h1, h2⟩ := argBest_gt (numAt xs) (xs.size - 1)
    refine fin _ t (.inr ⟨?_, fun y hy => ?_⟩)
    · rw [numAt_eq, ← hn]
      exact PySem.getD_mem (by rw [List.length_map, Array.length_toList]; omega)
    · rw [← hn] at hy
      obtain ⟨j, hj, rfl⟩ := mem_getD hy
      rw [List.length_map, Array.length_toList] at hj
      rw [← numAt_eq]
      exact h2 j (by omega)
end XL
end
section
set_option Elab.async false
set_option maxRecDepth 100000
set_option maxHeartbeats 2000000
namespace XL
open PySem PySem.Spec PyProof.Rows L2
def ExAt (h : Heap) (e : Addr) (c : Value) (dd : Option Addr) (tb : Value) : Prop :=
  ∃ oe vs, h.get? e = some oe ∧ oe.cls = c ∧ oe.dict = dd ∧ oe.data = .fields vs ∧ vs[1]? = some tb
def TbAt (h : Heap) (T : Addr) (fl : Value) : Prop := ∃ oT ts, h.get? T = some oT ∧ oT.data = .fields ts ∧ ts[3]? = some fl
theorem dict_mapF (o : Obj) (f : Array Value → Array Value) : (o.mapFields f).dict = o.dict := by
  obtain ⟨c, d, dt, s⟩ := o
  cases dt <;> rfl
section
variable {M : Model} {A : Around} {E : Value → Shared → Prop} {s : Shared}
structure Stn (base : Heap) (l : List Env) (e : Addr) (c : Value) (dd : Option Addr) (fl : Value) (h h' : Heap) : Prop where
  st : base.StaysIn h'
  fr : h'.FunFrames base l
  ex : ∃ T, ExAt h' e c dd (.ref T) ∧ T ≠ e ∧ base.get? T = none ∧ TbAt h' T fl ∧ h.objs.size ≤ T
  sl : h.UpToSlots h'
theorem entry_ok {base : Heap} {env : Env} {outer : List Env} {L e : Addr} {c hd : Value} {dd : Option Addr} {tb : Value} {b : Bool} {Q : Unit → Shared → Prop}
    (hfr : A.frames = some (env :: outer)) (hl : s.heap.FunFrames base (env :: outer)) (hf : env.frame = some L) (hx : ExAt s.heap e c dd tb) (hkb : base.StaysIn s.heap) (hen : base.get? e = none)
    (h : ∀ h', Stn base (env :: outer) e c dd (rawInt L) s.heap h' → Q () { s with heap := h' }) :
    wpAny M A (do let a ← frameOf env; let pl ← entryPlaceOf L b; let x ← EntryCells.newEntry hd a .none (rawInt L) .none pl; setField (.ref e) 1 x) Q E s := by
  obtain ⟨oe, vs, he, hc, hdd, hdat, h1⟩ := hx
  have sz1 : 1 < vs.size := (Array.getElem?_eq_some_iff.mp h1).1
  have nfr : e ∉ (env :: outer).filterMap (·.frame) := by
    intro hm
    obtain ⟨_, o, ho, hnf⟩ := hl.mem hm
    rw [he] at ho
    cases ho
    exact hnf vs hdat
  refine wpAny_bind (wpAny_frameOf_fun hfr hl hf fun g1 hs => ?_)
  refine wpAny_bind (wpAny_entryPlaceOf fun pl hpl => ?_)
  unfold EntryCells.newEntry newFields
  refine wpAny_bind (wpAny_newObj_type ?_ (hpl.sizeOk5 _ _ _ _ _))
  have e1 : g1.get? e = some oe := (hs.2.1 e nfr).trans he
  have kb1 : base.StaysIn g1 := fun q o hq => (hs.2.1 q fun hm => by rw [(hl.mem hm).1] at hq; cases hq).trans (hkb q o hq)
  generalize ht : ({ cls := .type "traceback", dict := none, data := .fields ([hd, .ref L, .none, rawInt L, .none] ++ (if pl.isEmpty then List.replicate 6 Value.none else pl)).toArray } : Obj) = tbo
  have e2 := Heap.get?_push_of_some (h := g1) tbo e1
  refine wpAny_setField e2 hdat sz1 (h _ ?_)
  have nTe : g1.objs.size ≠ e := Nat.ne_of_gt (Heap.lt_size e1)
  have d3 := Obj.data_mapFields hdat (·.setIfInBounds 1 (Value.ref g1.objs.size))
  have e3 := Heap.get?_update_self (Obj.mapFields (·.setIfInBounds 1 (Value.ref g1.objs.size))) e2 (Obj.isFreed_of_fields d3)
  have t3 := (Heap.get?_update_other (g1.push tbo) (Obj.mapFields (·.setIfInBounds 1 (Value.ref g1.objs.size))) (Ne.symm nTe)).trans (Heap.get?_push_size g1 (by rw [← ht]; rfl))
  have keep : ∀ q o, q ≠ e → g1.get? q = some o → ((g1.push tbo).update e (Obj.mapFields (·.setIfInBounds 1 (Value.ref g1.objs.size)))).get? q = some o := fun q o hq hb => by
    rw [Heap.get?_update_other _ _ (Ne.symm hq)]
    exact Heap.get?_push_of_some _ hb
  have nrec : ∀ q o, s.heap.get? q = some o → (∀ ws, o.data ≠ .fields ws) → q ≠ e := fun q o hb hnf z => by
    rw [z, he] at hb
    cases hb
    exact hnf vs hdat
  refine ⟨fun q o hq => keep q o (fun z => by rw [z, hen] at hq; cases hq) (kb1 q o hq), hl.of_keeps fun q o hb hnf => ?_, ?_, fun q o hb hnf => ?_⟩
  · obtain ⟨sl, hsl⟩ := hs.2.2 q o hb
    exact ⟨_, keep q _ (nrec q o hb hnf) hsl, rfl⟩
  · refine ⟨g1.objs.size, ⟨_, _, e3, (Obj.cls_mapFields _ _).trans hc, (dict_mapF _ _).trans hdd, d3, by simp [sz1]⟩, nTe, kb1.fresh, ⟨_, _, t3, by rw [← ht], ?_⟩, ?_⟩
    · simp
    · exact Nat.le_of_eq hs.1.symm
  · obtain ⟨sl, hsl⟩ := hs.2.2 q o hb
    exact ⟨sl, keep q _ (nrec q o hb hnf) hsl⟩
end
end XL
end
section
set_option Elab.async false
set_option maxRecDepth 100000
set_option maxHeartbeats 2000000
namespace XL
open PySem PySem.Spec PyProof.Rows L2
def Loose (base h : Heap) (e : Addr) (c : Value) (dd : Option Addr) : Prop :=
  ∃ tb, ExAt h e c dd tb ∧ (tb = .none ∨ ∃ T, tb = .ref T ∧ T ≠ e ∧ base.get? T = none ∧ TbAt h T .none)
section
variable {M : Model} {A : Around} {E : Value → Shared → Prop} {s : Shared}
theorem note_ok {base : Heap} {env : Env} {outer : List Env} {L e : Addr} {c : Value} {dd : Option Addr} {Q : Unit → Shared → Prop}
    (hfr : A.frames = some (env :: outer)) (hl : s.heap.FunFrames base (env :: outer)) (hf : env.frame = some L) (hx : Loose base s.heap e c dd) (hkb : base.StaysIn s.heap) (hen : base.get? e = none)
    (h : ∀ h', Stn base (env :: outer) e c dd (rawInt L) s.heap h' → Q () { s with heap := h' }) : wpAny M A (noteFrame (.ref e) env) Q E s := by
  obtain ⟨tb, hx, ht⟩ := hx
  have hx' := hx
  obtain ⟨oe, vs, he, hc, hdd, hdat, h1⟩ := hx
  unfold noteFrame
  simp only [hf]
  refine wpAny_bind (wpAny_field he hdat h1 ?_)
  rcases ht with rfl | ⟨T, rfl, nTe, hT0, oT, ts, hT, hTd, h3⟩
  · rw [if_neg (by decide)]
    exact entry_ok hfr hl hf hx' hkb hen h
  · rw [if_pos (show (Value.ref T != Value.none) = true from by simp)]
    refine wpAny_bind (wpAny_field hT hTd h3 ?_)
    rw [if_neg (show ¬ ((Value.none == rawInt L) = true) from by simp [rawInt])]
    refine wpAny_bind (wpAny_setField hT hTd (Array.getElem?_eq_some_iff.mp h3).1 ?_)
    generalize hg : s.heap.update T (Obj.mapFields (·.setIfInBounds 3 Value.none)) = g
    have oth : ∀ b, b ≠ T → g.get? b = s.heap.get? b := fun b hb => by rw [← hg]; exact Heap.get?_update_other _ _ (Ne.symm hb)
    have nrec : ∀ b o, s.heap.get? b = some o → (∀ ws, o.data ≠ .fields ws) → b ≠ T := fun b o hb hnf z => by
      rw [z, hT] at hb
      cases hb
      exact hnf ts hTd
    refine entry_ok (s := { s with heap := g }) hfr (hl.of_keeps fun b o hb hnf => ⟨o, (oth b (nrec b o hb hnf)).trans hb, rfl⟩) hf ⟨oe, vs, (oth e (Ne.symm nTe)).trans he, hc, hdd, hdat, h1⟩
      (fun b o hb => (oth b fun z => by rw [z, hT0] at hb; cases hb).trans (hkb b o hb)) hen fun h' S => h h' ⟨S.st, S.fr, ?_, fun b o hb hnf => S.sl b o ((oth b (nrec b o hb hnf)).trans hb) hnf⟩
    obtain ⟨T', x1, x2, x3, x4, x5⟩ := S.ex
    refine ⟨T', x1, x2, x3, x4, ?_⟩
    have sz : g.objs.size = s.heap.objs.size := by rw [← hg]; exact Heap.size_after_update _ _ _
    exact Nat.le_trans (Nat.le_of_eq sz.symm) x5
theorem flight_ok {base h0 : Heap} {l : List Env} {e : Addr} {c fl : Value} {dd : Option Addr} {Q : Unit → Shared → Prop} (S : Stn base l e c dd fl h0 s.heap)
    (h : ∀ h', Stn base l e c dd .none h0 h' → Q () { s with heap := h' }) : wpAny M A (setFlight (.ref e) none) Q E s := by
  obtain ⟨T, ⟨oe, vs, he, hc, hdd, hdat, h1⟩, nTe, hT0, ⟨oT, ts, hT, hTd, h3⟩, hn⟩ := S.ex
  have sz3 : 3 < ts.size := (Array.getElem?_eq_some_iff.mp h3).1
  unfold setFlight
  refine wpAny_bind (wpAny_field he hdat h1 ?_)
  rw [if_pos (show (Value.ref T != Value.none) = true from by simp)]
  refine wpAny_setField hT hTd sz3 (h _ ?_)
  generalize hg : s.heap.update T (Obj.mapFields (·.setIfInBounds 3 ((none : Option Addr).elim Value.none fun f => rawInt f))) = g
  have oth : ∀ b, b ≠ T → g.get? b = s.heap.get? b := fun b hb => by rw [← hg]; exact Heap.get?_update_other _ _ (Ne.symm hb)
  have nrec : ∀ b o, s.heap.get? b = some o → (∀ ws, o.data ≠ .fields ws) → b ≠ T := fun b o hb hnf z => by
    rw [z, hT] at hb
    cases hb
    exact hnf ts hTd
  have gT := Heap.get?_update_self (Obj.mapFields (·.setIfInBounds 3 ((none : Option Addr).elim Value.none fun f => rawInt f))) hT (Obj.isFreed_of_fields (Obj.data_mapFields hTd _))
  rw [hg] at gT
  refine ⟨fun b o hb => (oth b fun z => by rw [z, hT0] at hb; cases hb).trans (S.st b o hb), S.fr.of_keeps fun b o hb hnf => ⟨o, (oth b (nrec b o hb hnf)).trans hb, rfl⟩,
    ⟨T, ⟨oe, vs, (oth e (Ne.symm nTe)).trans he, hc, hdd, hdat, h1⟩, nTe, hT0, ⟨_, _, gT, Obj.data_mapFields hTd _, by simp [sz3]⟩, hn⟩, fun b o hb hnf => ?_⟩
  obtain ⟨sl, hsl⟩ := S.sl b o hb hnf
  exact ⟨sl, (oth b (nrec b _ hsl hnf)).trans hsl⟩
theorem leaving_ok {base : Heap} {env : Env} {outer : List Env} {L e : Addr} {c : Value} {dd : Option Addr} {Q : Unit → Shared → Prop}
    (hfr : A.frames = some (env :: outer)) (hl : s.heap.FunFrames base (env :: outer)) (hf : env.frame = some L) (hx : Loose base s.heap e c dd) (hkb : base.StaysIn s.heap) (hen : base.get? e = none)
    (h : ∀ h', Stn base (env :: outer) e c dd .none s.heap h' → Q () { s with heap := h' }) : wpAny M A (leaving env (.ref e)) Q E s := by
  unfold leaving
  refine wpAny_bind (note_ok hfr hl hf hx hkb hen fun h' S => ?_)
  exact flight_ok (s := { s with heap := h' }) S fun h'' S' => h h'' S'
end
end XL
end
section
set_option Elab.async false
set_option maxRecDepth 100000
set_option maxHeartbeats 2000000
namespace XL
open PySem PySem.Spec PyProof.Rows L2
def exO (e C d : Addr) : HO := .ext fun h => ∃ oe vs, h.get? e = some oe ∧ oe.cls = .ref C ∧ oe.dict = some d ∧ oe.data = .fields vs
structure Fly (n : Nat) (H : Hp) (h : Heap) (e C d : Addr) : Prop where
  ex : H e = some (exO e C d)
  new : n ≤ e
  tb : ∃ tb, ExAt h e (.ref C) (some d) tb ∧ (tb = .none ∨ ∃ T, tb = .ref T ∧ T ≠ e ∧ n ≤ T ∧ H T = none ∧ TbAt h T .none)
def CXr (P : Program) (w : World) : CXT := fun outer H s E v s' => ∃ e C d H', v = .ref e ∧ s'.os = s.os ∧ AllBare s'.gens ∧ Un (frs outer) [] H H' s.heap s'.heap ∧ HOk P w H' s'.heap ∧ Fly s.heap.objs.size H' s'.heap e C d ∧ E (.ref C) (some d) H'
section
variable {P : Program} {w : World} {H : Hp} {h h' : Heap} {n : Nat} {e C d : Addr}
theorem Fly.grow (F : Fly n H h e C d) {m : Nat} (hm : m ≤ n) : Fly m H h e C d := by
  obtain ⟨x, y, tb, z1, z2⟩ := F
  refine ⟨x, Nat.le_trans hm y, tb, z1, ?_⟩
  rcases z2 with z | ⟨T, a1, a2, a3, a4⟩
  · exact .inl z
  · exact .inr ⟨T, a1, a2, Nat.le_trans hm a3, a4⟩
theorem Fly.ground (F : Fly n H h e C d) (fs : List Addr) (hfs : ∀ b ∈ fs, H b = none) :
    ∃ as : List Addr, (∀ b ∈ fs, b ∈ as) ∧ e ∈ as ∧ (∀ b ∈ as, b = e ∨ H b = none) ∧ (∀ b ∈ as, b ∈ fs ∨ n ≤ b) ∧ Loose (PySem.W.hideAll h as) h e (.ref C) (some d) ∧ (∀ b ∈ as, b = e ∨ b ∈ fs ∨ ∃ o vs, h.get? b = some o ∧ o.data = .fields vs) := by
  obtain ⟨x, y, tb, z1, z2⟩ := F
  rcases z2 with z | ⟨T, a1, a2, a3, a4, a5⟩
  · refine ⟨e :: fs, fun b hb => .tail _ hb, .head _, fun b hb => ?_, fun b hb => ?_, ⟨tb, z1, .inl z⟩, fun b hb => ?_⟩
    · exact (List.mem_cons.mp hb).elim .inl fun q => .inr (hfs b q)
    · exact (List.mem_cons.mp hb).elim (fun q => .inr (q ▸ y)) .inl
    · exact (List.mem_cons.mp hb).elim .inl fun q => .inr (.inl q)
  · refine ⟨e :: T :: fs, fun b hb => .tail _ (.tail _ hb), .head _, fun b hb => ?_, fun b hb => ?_, ⟨tb, z1, .inr ⟨T, a1, a2, PySem.W.hideAll_none _ (.tail _ (.head _)), a5⟩⟩, fun b hb => ?_⟩
    · rcases List.mem_cons.mp hb with q | q
      · exact .inl q
      · exact .inr ((List.mem_cons.mp q).elim (fun z => z ▸ a4) (hfs b))
    · rcases List.mem_cons.mp hb with q | q
      · exact .inr (q ▸ y)
      · exact (List.mem_cons.mp q).elim (fun z => .inr (z ▸ a3)) .inl
    · rcases List.mem_cons.mp hb with q | q
      · exact .inl q
      · refine .inr ((List.mem_cons.mp q).elim (fun z => .inr ?_) .inl)
        obtain ⟨o, ts, t1, t2, _⟩ := a5
        exact ⟨o, ts, z ▸ t1, t2⟩
theorem hok_station {as : List Addr} {l : List Env} {fl : Value} (ok : HOk P w H h) (hx : H e = some (exO e C d)) (has : ∀ b ∈ as, b = e ∨ H b = none)
    (S : Stn (PySem.W.hideAll h as) l e (.ref C) (some d) fl h h') : HOk P w H h' := by
  intro a u ha
  by_cases hae : a = e
  · subst hae
    rw [hx] at ha
    cases ha
    obtain ⟨T, ⟨oe, vs, x1, x2, x3, x4, _⟩, _⟩ := S.ex
    exact ⟨⟨oe, vs, x1, x2, x3, x4⟩, ⟨oe, x1⟩, fun h1 h2 ⟨o, ws, y1, y2⟩ k => ⟨o, ws, k _ y1, y2⟩⟩
  · refine (ok a u ha).stay (fun b v hb q => S.st b v (PySem.W.hideAll_get _ q fun z => ?_)) (fun _ q => q) fun _ _ q => q
    rcases has b z with q' | q'
    · rcases hb with hb | hb
      · exact hae (hb.symm.trans q')
      · rw [q', hx] at hb
        cases hb
    · rcases hb with hb | hb
      · rw [hb, ha] at q'
        cases q'
      · rw [hb] at q'
        cases q'
theorem Fly.station {as : List Addr} {l : List Env} (F : Fly n H h e C d) (ok : HOk P w H h) (hn : n ≤ h.objs.size) (S : Stn (PySem.W.hideAll h as) l e (.ref C) (some d) .none h h') : Fly n H h' e C d := by
  refine ⟨F.ex, F.new, ?_⟩
  obtain ⟨T, x1, x2, x3, x4, x5⟩ := S.ex
  exact ⟨.ref T, x1, .inr ⟨T, rfl, x2, Nat.le_trans hn x5, ok.fresh x5, x4⟩⟩
end
section
variable {X : Cx} {pins : List (Addr × Obj)} {σ : L2.St} {H : Hp} {s : Shared} {e C d : Addr}
theorem un_station {h' : Heap} {as : List Addr} {l : List Env} {fl : Value} {fs : List Addr} {H0 : Hp} {h0 h : Heap} (u : Un fs [] H0 H h0 h) (S : Stn (PySem.W.hideAll h as) l e (.ref C) (some d) fl h h')
    (hfr : ∀ b ∈ fs, ∀ o vs, h.get? b = some o → o.data ≠ .fields vs) (has : ∀ b o, h0.get? b = some o → b ∈ as → b ∈ fs) (hex : ∀ b ∈ fs, ∃ o', h'.get? b = some o') : Un fs [] H0 H h0 h' where
  keep := fun b o q n hb hx => S.st b o (PySem.W.hideAll_get _ (u.keep b o q n hb hx) fun z => hb (has b o q z))
  slot := fun b o q n hb hx => by
    obtain ⟨sl, e1⟩ := u.slot b o q n hb hx
    obtain ⟨sl2, e2⟩ := S.sl b _ e1 fun vs z => hfr b hb _ vs e1 z
    exact ⟨sl2, e2⟩
  free := u.free
  there := fun b o q hx => by
    obtain ⟨o', e1⟩ := u.there b o q hx
    by_cases hb : b ∈ as
    · exact hex b (has b o q hb)
    · exact ⟨o', S.st b o' (PySem.W.hideAll_get _ e1 hb)⟩
  tups := u.tups
  frzs := u.frzs
  tbls := u.tbls
theorem leaves {P : Program} {w : World} {K : PySem.W.Frag} {mg : Str → Option Value} {base : Heap} {N : List Str} {qual : Str} {scope : Scope} {f : Addr} {cd : Value} {A : Around} {outer : List Env} {s0 : Shared} {H0 : Hp} {E : XK}
    (I : Inv (cxOf (CXr P w) P w K mg base N qual scope f cd A outer s0 H0 E) pins σ H s) (F : Fly s0.heap.objs.size H s.heap e C d) (hE : E (.ref C) (some d) H) :
    (cxOf (CXr P w) P w K mg base N qual scope f cd A outer s0 H0 E).xe (.ref e) s := by
  have hfr := I.ok.frames
  have hst := I.stack
  have sub := I.stkFree
  obtain ⟨as, g1, g2, g3, g4, g5, g6⟩ := F.ground (frs (envOfC qual scope s0.heap.objs.size f cd :: outer)) sub
  have hn : s0.heap.objs.size ≤ s.heap.objs.size := I.sz
  refine leaving_ok (L := s0.heap.objs.size) hfr (PySem.W.funFrames_hide hst fun env he b hb => g1 b (List.mem_filterMap.mpr ⟨env, he, hb⟩)) rfl g5 (fun b o q => PySem.W.of_hideAll _ q) (PySem.W.hideAll_none _ g2) fun h' S => ?_
  have hL : ∀ b ∈ frs outer, b ∈ frs (envOfC qual scope s0.heap.objs.size f cd :: outer) := fun b hb => by
    unfold frs at hb ⊢
    rw [List.filterMap_cons]
    exact List.mem_cons_of_mem _ hb
  refine ⟨e, C, d, H, rfl, I.os, I.bare, ?_, hok_station I.hok F.ex g3 S, F.station I.hok hn S, hE⟩
  refine un_station (l := envOfC qual scope s0.heap.objs.size f cd :: outer) I.base S (fun b hb o vs ho hd => ?_) (fun b o q hb => ?_) fun b hb => ?_
  · obtain ⟨_, o', ho', hd'⟩ := hst.mem (hL b hb)
    rw [ho] at ho'
    cases ho'
    exact hd' vs hd
  · rcases g4 b hb with z | z
    · unfold frs at z
      rw [List.filterMap_cons] at z
      rcases List.mem_cons.mp z with z | z
      · exact absurd (Heap.lt_size q) (by rw [z]; exact Nat.lt_irrefl _)
      · exact z
    · exact absurd (Heap.lt_size q) (Nat.not_lt.mpr z)
  · obtain ⟨_, o', ho', _⟩ := S.fr.mem (hL b hb)
    exact ⟨o', ho'⟩
theorem passes {P : Program} {w : World} {K : PySem.W.Frag} {mg : Str → Option Value} {base : Heap} {N : List Str} {qual : Str} {scope : Scope} {f : Addr} {cd : Value} {A : Around} {outer : List Env} {s0 : Shared} {H0 : Hp} {E : XK} :
    Passes (CXr P w) (cxOf (CXr P w) P w K mg base N qual scope f cd A outer s0 H0 E) E := by
  intro pins σ H s v s' I h
  obtain ⟨e, C, d, H', rfl, os, bare, un, hok, F, hE⟩ := h
  have I' := I.call' (ch := []) os un hok bare (fun b z => absurd z (by simp))
  exact leaves I' (F.grow I.sz) hE
end
end XL
end
section
set_option Elab.async false
set_option maxRecDepth 100000
set_option maxHeartbeats 4000000
namespace XL
open PySem
section
variable {prog : Program} {w : World} {A : Around} {h : Heap} {g : Array GenState} {d : Drawn} {t : Nat} {os : OsState}
variable {nm q : Str} {C N : Addr} {bs bm : List Value} {hdct : Bool} {sn : List Str} {sub : List Value} {ab : Bool} {col : Option Bool} {dd : Option Addr} {k0 k1 k2 k3 k5 : Option Value} {B newId initId : String} {bmN : List Value}
theorem new_own {R : Result → Shared → Prop} (F : ExcBaseFacts B newId initId bmN) (hB : bm.contains (.type B) = true) (hA : bm.contains (.type "AttributeError") = false) (hN : bm.contains (.type "NameError") = false)
    (hC : h.get? C = some (excClassObj nm q C N bs bm hdct sn sub ab col dd k0 k1 k2 k3 k5 newId))
    (hq : R (.ok (.ret (.ref (h.objs.size + 1)))) ⟨(h.push { cls := .type "tuple", data := .seq #[] }).push { cls := .ref C, data := .fields #[.ref h.objs.size, .none, .none, .none, .bool false, .none] }, g, d, t, os⟩) :
    codeAny (model prog w) A (.builtin newId ⟨[.ref C], []⟩) R ⟨h, g, d, t, os⟩ := by
  have ends := F.ends
  have cB : (Value.ref C :: bm).contains (.type B) = true := by rw [List.contains_cons, hB, Bool.or_true]
  have cA : (Value.ref C :: bm).contains (.type "AttributeError") = false := by rw [List.contains_cons, hA]; rfl
  have cN : (Value.ref C :: bm).contains (.type "NameError") = false := by rw [List.contains_cons, hN]; rfl
  refine codeAny_builtinAt F.entry ?_
  unfold Builtin.«BaseException.__new__»
  refine wpAt_bind ?_
  show wpAt _ _ _ (stack >>= _) _ _ _
  refine wpAt_bind (wpAt_stack fun p below => wpAt_of_wpAny ?_)
  wp_walk
  refine wpAt_of_wpAny ?_
  rw [F.owner]
  repeat (first
    | with_reducible refine wpAny_madeHere_exc F.canon hC ?_
    | with_reducible refine wpAny_loadPart_at hC ?_
    | (with_reducible refine wpAny_isSubtype_exc hC ?_; first | rw [cB] | rw [cA] | rw [cN])
    | wp_step)
  show R _ _
  rw [Heap.size_push]
  exact hq
theorem type_call_own {E : Value → Shared → Prop} (F : ExcBaseFacts B newId initId bmN) (hB : bm.contains (.type B) = true) (hA : bm.contains (.type "AttributeError") = false) (hN : bm.contains (.type "NameError") = false)
    {fI : Addr} {oI : Obj} {Q : Fin → Shared → Prop}
    (hC : h.get? C = some (excClassObj nm q C N bs bm hdct sn sub ab col dd k0 k1 k2 k3 k5 newId)) (hi : PySem.W.Looks (model prog w) h (typeLookup (.ref C) "__init__") (some (.ref fI))) (hfI : h.get? fI = some oI) (hfc : oI.cls = .type "function")
    (hq : wpAny (model prog w) A (call (.ref fI) [.ref (h.objs.size + 1)]) (fun r s' => r = .none ∧ Q (.done (.ret (.ref (h.objs.size + 1)))) s') E
      ⟨(h.push { cls := .type "tuple", data := .seq #[] }).push { cls := .ref C, data := .fields #[.ref h.objs.size, .none, .none, .none, .bool false, .none] }, g, d, t, os⟩) :
    wpAny (model prog w) A (Builtin.«type.__call__» ⟨[.ref C], []⟩) Q E ⟨h, g, d, t, os⟩ := by
  repeat (first | with_reducible refine wpAny_loadPart_at hC ?_ | with_reducible refine wpAny_madeBy_exc hC ?_ | wp_step)
  refine codeAny_call_builtin_code (Code.quiet_builtin _ F.quiet) (wpAny_check_new_subU (bmB := bm) F hB .base hC ?_)
  refine new_own F hB hA hN hC ?_
  show wpAny _ _ _ _ _ _
  generalize hg : ((h.push { cls := .type "tuple", data := .seq #[] }).push { cls := .ref C, data := .fields #[.ref h.objs.size, .none, .none, .none, .bool false, .none] }) = g2
  have up : ∀ b o, h.get? b = some o → g2.get? b = some o := fun b o e => by rw [← hg]; exact Heap.get?_push_of_some _ (Heap.get?_push_of_some _ e)
  have hget : g2.get? (h.objs.size + 1) = some { cls := .ref C, data := .fields #[.ref h.objs.size, .none, .none, .none, .bool false, .none] } := by rw [← hg]; heap_get
  have cC : (Value.ref C :: bm).contains (.ref C) = true := by simp
  have hC2 := up _ _ hC
  rw [hg] at hq
  unfold isInstance
  repeat (first | with_reducible refine wpAny_loadPart_at hget ?_ | (with_reducible refine wpAny_isSubtype_exc hC2 ?_; rw [cC]) | wp_step)
  show wpAny _ _ (typeLookup (.ref C) _) _ _ _
  refine (hi.keeps up).at (wpAny_holding (wpAny_bind ?_))
  unfold bindSpecial
  refine wpAny_bind (wpAny_typeOf (T := "function") ⟨_, up _ _ hfI, hfc⟩ ?_)
  rw [if_pos (by decide)]
  refine wpAny_pure (wpAny_bind (wpAny_mono hq (fun r s' hr => ?_) fun _ _ x => x))
  obtain ⟨rfl, hQ⟩ := hr
  wp_walk
  exact hQ
theorem call_own {E : Value → Shared → Prop} (F : ExcBaseFacts B newId initId bmN) (hB : bm.contains (.type B) = true) (hA : bm.contains (.type "AttributeError") = false) (hN : bm.contains (.type "NameError") = false)
    {fI : Addr} {oI : Obj} {Q : Value → Shared → Prop}
    (hC : h.get? C = some (excClassObj nm q C N bs bm hdct sn sub ab col dd k0 k1 k2 k3 k5 newId)) (hi : PySem.W.Looks (model prog w) h (typeLookup (.ref C) "__init__") (some (.ref fI))) (hfI : h.get? fI = some oI) (hfc : oI.cls = .type "function")
    (hq : wpAny (model prog w) (A.under (.builtin "type.__call__" ⟨[.ref C], []⟩)) (call (.ref fI) [.ref (h.objs.size + 1)]) (fun r s' => r = .none ∧ Q (.ref (h.objs.size + 1)) s') E
      ⟨(h.push { cls := .type "tuple", data := .seq #[] }).push { cls := .ref C, data := .fields #[.ref h.objs.size, .none, .none, .none, .bool false, .none] }, g, d, t, os⟩) :
    wpAny (model prog w) A (call (.ref C) []) Q E ⟨h, g, d, t, os⟩ := by
  have f1 := tc_lookup
  have f2 := tc_bind (.ref C)
  have hT : (⟨h, g, d, t, os⟩ : Shared).TypeIs (.ref C) "type" := ⟨_, hC, rfl⟩
  refine wpAny_call (codeAny_of_tree ?_)
  show wpAny _ _ (callAny (.ref C) _) _ _ _
  repeat (any_goals (first | assumption | with_reducible refine wpAny_loadPart_at hC ?_ | wp_step))
  refine ⟨rfl, ?_⟩
  exact codeAny_call_builtin_at (Code.quiet_builtin _ (by decide +kernel)) entry_typeCall (wpAny_check_type_call_sub hC (type_call_own F hB hA hN hC hi hfI hfc hq))
end
section
variable {M : Model} {A : Around} {E : Value → Shared → Prop} {env : Env}
variable {nm q : Str} {C N : Addr} {bs bm : List Value} {hdct : Bool} {sn : List Str} {sub : List Value} {ab : Bool} {col : Option Bool} {dd : Option Addr} {k0 k1 k2 k3 k5 : Option Value} {newId : String}
theorem raise_own {s : Shared} {x : Sem Value} {Q : Flow → Shared → Prop} (hbase : bm.contains (.type "BaseException") = true) (hh : A.handled = none)
    (h : wpAny M A x (fun v s1 => ∃ e t od osl, v = .ref e ∧ s1.heap.get? C = some (excClassObj nm q C N bs bm hdct sn sub ab col dd k0 k1 k2 k3 k5 newId) ∧
      s1.heap.get? e = some ⟨.ref C, od, .fields #[.ref t, .none, .none, .none, .bool false, .none], osl⟩ ∧ E (.ref e) s1) E s) : wpAny M A (raiseStmt env (some x) none) Q E s := by
  have cB : (Value.ref C :: bm).contains (.type "BaseException") = true := by rw [List.contains_cons, hbase, Bool.or_true]
  unfold raiseStmt
  refine wpAny_bind (wpAny_mono h (fun v s1 h1 => ?_) fun _ _ z => z)
  obtain ⟨e, t, od, osl, rfl, hC, he, hE⟩ := h1
  obtain ⟨hp, g, d, tk, os⟩ := s1
  repeat (first
    | with_reducible refine wpAny_loadPart_at he ?_
    | with_reducible refine wpAny_loadPart_at hC ?_
    | (with_reducible refine wpAny_isSubtype_exc hC ?_; rw [cB])
    | wp_step)
  exact wpAny_raiseNew_none hh hE
end
end XL
end
section
set_option Elab.async false
set_option maxRecDepth 100000
set_option maxHeartbeats 4000000
namespace XL
open PySem PySem.W PyProof.Rows Builtin Builtin.ObjectAttr
def excLine : List Value → Bool
  | .ref _ :: r => excLine r
  | [.type a, .type b, .type c] => a == "Exception" && (b == "BaseException" && c == "object")
  | _ => false
theorem excLine_passes (self : Value) : ∀ {l : List Value}, excLine l = true → refuseLoop self "__setattr__" l = pure ()
  | .ref _ :: r, h => by
    rw [refuseLoop_ref]
    exact excLine_passes self (l := r) h
  | [.type a, .type b, .type c], h => by
    have q : (a == "Exception") = true ∧ (b == "BaseException") = true ∧ (c == "object") = true := by
      rw [← Bool.and_eq_true, ← Bool.and_eq_true]
      exact h
    rw [beq_iff_eq.mp q.1, beq_iff_eq.mp q.2.1, beq_iff_eq.mp q.2.2]
    exact PySem.F.store_Exception.passes self
theorem excLine_has : ∀ {l : List Value}, excLine l = true → l.contains (.type "object") = true
  | .ref _ :: r, h => by rw [List.contains_cons, excLine_has (l := r) h, Bool.or_true]
  | [.type a, .type b, .type c], h => by
    have q : (a == "Exception") = true ∧ (b == "BaseException") = true ∧ (c == "object") = true := by
      rw [← Bool.and_eq_true, ← Bool.and_eq_true]
      exact h
    rw [beq_iff_eq.mp q.1, beq_iff_eq.mp q.2.1, beq_iff_eq.mp q.2.2]
    simp
def excOver (K : Frag) (C : Addr) : Bool := (clsIn K C).any fun cd => excLine cd.mro
section
variable {prog : Program} {w : World} {A : Around} {s : Shared} {K : Frag} {x C : Addr}
theorem osa_exc {R : Result → Shared → Prop} {ox : Obj} {od : Option Obj} {name : Str} {tk : Tok} {v : Value} (X : K.In s.heap) (I : PySem.W.InstAt s.heap x ox C od) (hp : excOver K C = true) (ht : takerIn K C name = some none)
    (h : ∀ b, wpAny (model prog w) A.in1 (storeInOwnDict (.ref x) (.ref C) (.str name tk) name v b)
      (fun fin s' => match fin with | .done f => R (.ok f) s' | .again c' => c'.quiet = true ∧ codeAny (model prog w) A c' R s') (fun e s' => R (.error e) s') s) :
    codeAny (model prog w) A (.call (.builtin "object.__setattr__") ⟨[.ref x, .str name tk, v], []⟩) R s := by
  have SF := PySem.F.store_object
  obtain ⟨cd, hc, ho⟩ := any_some hp
  have ne : cd.mro.isEmpty = false := by
    cases q : cd.mro with
    | nil => rw [q] at ho; cases ho
    | cons _ _ => rfl
  have sub : Looks (model prog w) s.heap (isInstance (.ref x) (.type "object")) true :=
    I.type.andThen (looks_mroIn X (by unfold mroIn; rw [hc, Option.bind_some, if_neg (by rw [ne]; decide), excLine_has ho]))
  refine codeAny_call_builtin SF.slot.plain SF.entry (@check_slot (model prog w) _ _ s "object.__setattr__" "object" "__setattr__" (.ref x) [.str name tk, v] [] _ SF.kind SF.split sub (SF.args (.ref x) (.str name tk) v) ?_)
  obtain ⟨attr, ha, hr⟩ := Option.bind_eq_some_iff.mp ht
  have hm : Looks (model prog w) s.heap (mroOf (.ref C)) cd.mro := (looks_clsIn X hc).andThen .now
  have L3 : Looks (model prog w) s.heap (storeTaker? attr) none := by
    cases attr with
    | none => exact .now
    | some a =>
      obtain ⟨b, hb, hb2⟩ := Option.map_eq_some_iff.mp hr
      refine (looks_takesIn X hb).andThen ?_
      cases b with
      | true => cases hb2
      | false => exact .now
  rw [osa_eq, refuse_eq]
  refine wpAny_bind (wpAny_bind (I.type.here (wpAny_bind (hm.here ?_))))
  rw [excLine_passes _ ho]
  refine wpAny_pure (wpAny_bind (I.type.here (wpAny_bind ((looks_findIn X ha).here (wpAny_bind (L3.here ?_))))))
  exact h _
theorem set_first {E : Value → Shared → Prop} {ox : Obj} {name : Str} {v : Value} {Q : Unit → Shared → Prop} (X : K.In s.heap) (hx : s.heap.get? x = some ox) (hcl : ox.cls = .ref C) (hdn : ox.dict = none) (hnc : ∀ c, ox.data ≠ .cls c)
    (hs : findIn K (.ref C) "__setattr__" = some (some (.builtin "object.__setattr__"))) (hp : excOver K C = true) (ht : takerIn K C name = some none) (hh : hasDictIn K C = true)
    (h : ∀ h' tk, (∀ b o, b ≠ x → s.heap.get? b = some o → h'.get? b = some o) → h'.get? x = some { ox with dict := some s.heap.objs.size } → h'.Ns1 s.heap.objs.size (fun y => if y = name then some v else none) → Q () { s with heap := h', toks := tk }) :
    wpAny (model prog w) A (setAttr (.ref x) name v) Q E s := by
  have I : PySem.W.InstAt s.heap x ox C none := ⟨hx, hcl, by
    unfold notCls
    obtain ⟨_, _, dt, _⟩ := ox
    cases dt <;> first | rfl | exact absurd rfl (hnc _), by rw [hdn]; trivial⟩
  refine set_plain X I hs (osa_exc (s := { s with toks := s.toks + 1 }) X I hp ht fun b => ?_)
  obtain ⟨cd, hc, hd'⟩ := any_some hh
  unfold storeInOwnDict
  refine wpAny_bind (wpAny_pure (wpAny_bind ?_))
  unfold ownDictForStores instanceDict
  refine wpAny_bind (wpAny_loadPart hx ?_)
  rw [hcl]
  refine wpAny_bind (PySem.W.Looks.here (s := { s with toks := s.toks + 1 }) (PySem.W.looks_clsIn X hc) ?_)
  rw [hd', hdn]
  simp only [Bool.not_true, Bool.false_eq_true, if_false, typeHasDict, Bool.or_self]
  have hxs : x ≠ s.heap.objs.size := Nat.ne_of_lt (Heap.lt_size hx)
  have hx1 : (s.heap.push { cls := .type "dict", data := .dict #[] }).get? x = some ox := Heap.get?_push_of_some _ hx
  have fin : wpAny (model prog w) A.in1 (do
      let d ← alloc { cls := .type "dict", data := .dict #[] }
      update x fun o => { o with dict := some d }
      dictMade (.ref C) x d) (fun r s' => wpAny (model prog w) A.in1 (match r with | some d => storeInDict d (.str name s.toks) name v | none => noDictFor (.ref x) (.ref C) name b)
        (fun fin s' => match fin with | .done f => (match (Except.ok f : Result) with | .ok (.ret _) => Q () s' | .ok _ => False | .error e => E e s') | .again c' => c'.quiet = true ∧ codeAny (model prog w) A c' (fun r s' => match r with | .ok (.ret _) => Q () s' | .ok _ => False | .error e => E e s') s') (fun e s' => E e s') s') (fun e s' => E e s') { s with toks := s.toks + 1 } := by
    refine wpAny_bind (wpAny_alloc' ?_)
    refine wpAny_bind (wpAny_update' hx1 ?_)
    unfold dictMade
    refine wpAny_pure ?_
    generalize hg : ((s.heap.push { cls := .type "dict", data := .dict #[] }).update x fun o => { o with dict := some s.heap.objs.size }) = g
    have gd : g.get? s.heap.objs.size = some { cls := .type "dict", data := .dict #[] } := by
      rw [← hg]
      exact (Heap.get?_update_ne _ _ _ _ hxs.symm).trans (Heap.get?_push_at rfl rfl)
    have gx : g.get? x = some { ox with dict := some s.heap.objs.size } := by
      rw [← hg]
      refine Heap.get?_update_self _ hx1 ?_
      have hfr := (Heap.get?_some_iff.mp hx).2
      obtain ⟨oc, od, odt, osl⟩ := ox
      cases odt <;> first | rfl | exact hfr
    have go : ∀ b o, b ≠ x → s.heap.get? b = some o → g.get? b = some o := fun b o hb e => by
      rw [← hg]
      exact (Heap.get?_update_ne _ _ _ _ hb).trans (Heap.get?_push_of_some _ e)
    have hnd : g.Ns s.heap.objs.size (fun _ => none) := ⟨_, #[], _, gd, rfl, fun e he => absurd he (by simp), fun _ => rfl⟩
    show wpAny _ _ (storeInDict s.heap.objs.size (.str name s.toks) name v) _ _ _
    unfold storeInDict newKeyGuard
    refine wpAny_bind (wpAny_pure (wpAny_bind (wpAny_nsSet1 (Heap.Ns1.of_empty hnd) fun h' hn' hsb => ?_)))
    obtain ⟨oD, esD, epD, hoD, hdD, hcD⟩ := hn'.count (Within.cons name v Within.nil)
    refine wpAny_bind (wpAny_lookBehind hoD (by rw [hdD]; exact pastItsLine_dict (Nat.le_trans hcD (by rw [List.length_cons, List.length_nil, sizeLine_eq]; omega))) ?_)
    refine wpAny_pure ?_
    refine h h' _ (fun b o hb e => ?_) ?_ hn'
    · exact (hsb.2 b (Nat.ne_of_lt (Heap.lt_size e))).trans (go b o hb e)
    · exact (hsb.2 x hxs).trans gx
  cases hdt : ox.data with
  | cls c => exact absurd hdt (hnc c)
  | _ => exact fin
end
end XL
end
section
set_option Elab.async false
set_option maxRecDepth 100000
set_option maxHeartbeats 4000000
namespace XL
open PySem PySem.W PyProof.Rows Builtin Builtin.ObjectAttr
theorem bga_kind : builtinKind "BaseException.__getattribute__" = some .slot := by decide +kernel
theorem bga_split : splitId "BaseException.__getattribute__" = some ("BaseException", "__getattribute__") := by kernel_rfl
theorem bga_plain : plainId "BaseException.__getattribute__" = true := by decide +kernel
theorem excLine_base : ∀ {l : List Value}, excLine l = true → l.contains (.type "BaseException") = true
  | .ref _ :: r, h => by rw [List.contains_cons, excLine_base (l := r) h, Bool.or_true]
  | [.type a, .type b, .type c], h => by
    have q : (a == "Exception") = true ∧ (b == "BaseException") = true ∧ (c == "object") = true := by
      rw [← Bool.and_eq_true, ← Bool.and_eq_true]
      exact h
    rw [beq_iff_eq.mp q.1, beq_iff_eq.mp q.2.1, beq_iff_eq.mp q.2.2]
    simp
theorem ga_bind (o : Value) : bindSpecial (.builtin "BaseException.__getattribute__") o = pure (.builtin "BaseException.__getattribute__", [o]) := by
  have hop : withoutEnding? "BaseException.__getattribute__" "#opaque" = none := by decide +kernel
  have hdat : withoutEnding? "BaseException.__getattribute__" "#data" = none := by decide +kernel
  simp only [bindSpecial, typeOf, builtinType, hop, hdat, bga_kind]
  rfl
section
variable {prog : Program} {w : World} {A : Around} {s : Shared} {K : Frag} {x C : Addr}
theorem get_exc {E : Value → Shared → Prop} {ox : Obj} {od : Option Obj} {name : Str} {v : Value} {expr : Bool} {Q : Value → Shared → Prop} (X : K.In s.heap) (I : PySem.W.InstAt s.heap x ox C od) (hp : excOver K C = true)
    (hg : findIn K (.ref C) "__getattribute__" = some (some (.builtin "BaseException.__getattribute__"))) (hk : findIn K (.ref C) "__getattr__" = some none)
    (hv : findObj K C od name = some (.value v)) (hh : handedIn v = true) (h : Q v { s with toks := s.toks + 1 }) : wpAny (model prog w) A (getAttr (.ref x) name expr) Q E s := by
  obtain ⟨cd, hc, ho⟩ := any_some hp
  have ne : cd.mro.isEmpty = false := by
    cases q : cd.mro with
    | nil => rw [q] at ho; cases ho
    | cons _ _ => rfl
  have sub : Looks (model prog w) s.heap (isInstance (.ref x) (.type "BaseException")) true :=
    I.type.andThen (looks_mroIn X (by unfold mroIn; rw [hc, Option.bind_some, if_neg (by rw [ne]; decide), excLine_base ho]))
  have oth : (onTheHeap (.ref C) && (Value.builtin "BaseException.__getattribute__" == Value.builtin "object.__getattribute__")) = false := by
    have z : (Value.builtin "BaseException.__getattribute__" == Value.builtin "object.__getattribute__") = false := by decide +kernel
    rw [z, Bool.and_false]
  unfold getAttr
  refine wpAny_bind (wpAny_mkText ?_)
  unfold getAttrBy
  refine wpAny_holding (wpAny_bind (PySem.W.Looks.here (s := { s with toks := s.toks + 1 }) I.type (wpAny_bind (PySem.W.Looks.here (s := { s with toks := s.toks + 1 }) (looks_findIn X hg) ?_))))
  dsimp only
  rw [oth, if_neg (by decide)]
  unfold getAttrByItsOwn hookBefore
  rw [if_pos (by rfl)]
  refine wpAny_bind (PySem.W.Looks.here (s := { s with toks := s.toks + 1 }) (looks_findIn X hk) ?_)
  have hx0 : (expr && onTheHeap (Value.builtin "BaseException.__getattribute__")) = false := by cases expr <;> rfl
  have run : wpAny (model prog w) A (callGetattribute (.ref x) (.str name s.toks) (.builtin "BaseException.__getattribute__") expr) (fun u s' => u = v ∧ s' = { s with toks := s.toks + 1 }) (fun _ _ => False) { s with toks := s.toks + 1 } := by
    unfold callGetattribute
    rw [hx0, if_neg (by decide)]
    unfold boundAndCalled
    rw [ga_bind]
    refine wpAny_bind (wpAny_pure (wpAny_call ?_))
    refine codeAny_call_builtin bga_plain PySem.F.entry_bexc_ga (@check_slot (model prog w) _ _ _ "BaseException.__getattribute__" "BaseException" "__getattribute__" (.ref x) [.str name s.toks] [] _ bga_kind bga_split sub (PySem.F.args_bexc_ga _ _) ?_)
    unfold Builtin.«object.__getattribute__»
    refine wpAny_bind (wpAny_pure (wpAny_bind (wpAny_pure ?_)))
    refine wpAny_bind (PySem.W.Looks.here (s := { s with toks := s.toks + 1 }) I.type (wpAny_bind (PySem.W.Looks.here (s := { s with toks := s.toks + 1 }) (looks_find X I hv) ?_)))
    exact wpAny_pure ⟨rfl, rfl⟩
  refine wpAny_bind (wpAny_attempt (wpAny_holding (wpAny_mono run (fun u s' hu => ?_) fun _ _ z => False.elim z)))
  obtain ⟨rfl, rfl⟩ := hu
  show wpAny _ _ (handedOut u) _ _ _
  rw [handedOut_of hh]
  exact wpAny_pure h
end
end XL
end
section
set_option Elab.async false
set_option maxRecDepth 100000
set_option maxHeartbeats 4000000
namespace XL
open PySem PySem.Spec PyProof.Rows L2
def exN (x C : Addr) (dd : Option Addr) : HO := .ext fun h => ∃ (oe : Obj) (t : Addr), h.get? x = some oe ∧ oe.cls = .ref C ∧ oe.dict = dd ∧ oe.data = .fields #[.ref t, .none, .none, .none, .bool false, .none]
theorem xi_plain : plainId "Exception.__init__" = true := by decide +kernel
theorem xi_check {M : Model} {A : Around} {E : Value → Shared → Prop} {h : Heap} {g : Array GenState} {d : Drawn} {tk : Nat} {os : OsState} {x C : Addr} {od od2 : Option Addr} {odt : Data} {osl osl2 : Array (Option Value)} {c2 : Value} {cd : ClassData} {Q : Unit → Shared → Prop}
    (sub : PySem.W.Looks M h (isInstance (.ref x) (.type "Exception")) true) (hx : h.get? x = some ⟨.ref C, od, odt, osl⟩) (hC : h.get? C = some ⟨c2, od2, .cls cd, osl2⟩) (hq : Q () ⟨h, g, d, tk, os⟩) :
    wpAny M A (checkBuiltinCall "Exception.__init__" ⟨[.ref x], []⟩) Q E ⟨h, g, d, tk, os⟩ := by
  have F := PySem.F.excCall_Exception
  have ns := F.noStar
  simp only [checkBuiltinCall, F.initKind, F.initSplit, F.initRow]
  refine wpAny_bind (PySem.W.Looks.here (s := ⟨h, g, d, tk, os⟩) sub ?_)
  simp only [Bool.not_true, Bool.false_eq_true, if_false]
  repeat (first | with_reducible refine wpAny_loadPart_at hx ?_ | with_reducible refine wpAny_loadPart_at hC ?_ | wp_step)
  exact hq
theorem excLine_exc : ∀ {l : List Value}, excLine l = true → l.contains (.type "Exception") = true
  | .ref _ :: r, h => by rw [List.contains_cons, excLine_exc (l := r) h, Bool.or_true]
  | [.type a, .type b, .type c], h => by
    have q : (a == "Exception") = true ∧ (b == "BaseException") = true ∧ (c == "object") = true := by
      rw [← Bool.and_eq_true, ← Bool.and_eq_true]
      exact h
    rw [beq_iff_eq.mp q.1, beq_iff_eq.mp q.2.1, beq_iff_eq.mp q.2.2]
    simp
section
variable {X : Cx}
theorem cr_init : CallR X (.builtin "Exception.__init__") (fun xs H Q => ∃ x C dd, xs = [.ref x] ∧ H x = some (exN x C dd) ∧ excOver X.K C = true ∧ Q .non H) := by
  intro pins s σ H xs us Q I r h
  obtain ⟨x, C, dd, rfl, hx, hp, q⟩ := h
  obtain rfl := Vals.ref1 r
  obtain ⟨⟨oe, t, h1, h2, h3, h4⟩, _, _⟩ := (show ObjOk X.prog X.w H s.heap x (exN x C dd) from I.hok x _ hx)
  obtain ⟨cd, hc, ho⟩ := PySem.W.any_some hp
  have ne : cd.mro.isEmpty = false := by
    cases q : cd.mro with
    | nil => rw [q] at ho; cases ho
    | cons _ _ => rfl
  have ty : PySem.W.Looks (model X.prog X.w) s.heap (typeOf (.ref x)) (.ref C) := h2 ▸ (PySem.W.Looks.ld h1).andThen .now
  have sub : PySem.W.Looks (model X.prog X.w) s.heap (isInstance (.ref x) (.type "Exception")) true :=
    ty.andThen (PySem.W.looks_mroIn I.kIn (by unfold PySem.W.mroIn; rw [hc, Option.bind_some, if_neg (by rw [ne]; decide), excLine_exc ho]))
  obtain ⟨c2, od2, osl2, hCo⟩ : ∃ c2 od2 osl2, s.heap.get? C = some ⟨c2, od2, .cls cd, osl2⟩ := by
    unfold PySem.W.clsIn at hc
    split at hc
    · rename_i q
      cases hc
      exact ⟨_, _, _, I.kIn _ _ q⟩
    · cases hc
  obtain ⟨oc, od, odt, osl⟩ := oe
  dsimp only at h2 h3 h4
  subst h2 h3 h4
  refine wpAny_call (codeAny_call_builtin xi_plain PySem.F.excCall_Exception.initEntry (xi_check (g := s.gens) (d := s.drawn) (tk := s.toks) (os := s.os) sub h1 hCo ?_))
  have sz : 0 < (#[Value.ref t, Value.none, .none, .none, .bool false, .none] : Array Value).size := by simp
  have h1' : (s.heap.push { cls := .type "tuple", data := .seq #[] }).get? x = some _ := Heap.get?_push_of_some _ h1
  have hupd := Heap.get?_update_self (Obj.mapFields (·.setIfInBounds 0 (Value.ref s.heap.objs.size))) h1' (Obj.isFreed_of_fields (Obj.data_mapFields rfl _))
  have fin : ∀ h' : Heap, h' = (s.heap.push { cls := .type "tuple", data := .seq #[] }).update x (Obj.mapFields (·.setIfInBounds 0 (Value.ref s.heap.objs.size))) → EP X pins σ Q .none { s with heap := h' } := fun h' e => by
    refine ⟨.non, H, ?_, rfl, q⟩
    have kp : ∀ b u, b ≠ x → s.heap.get? b = some u → h'.get? b = some u := fun b u hb z => by
      rw [e, Heap.get?_update_other _ _ (Ne.symm hb)]
      exact Heap.get?_push_of_some _ z
    have hx' : h'.get? x = some ⟨.ref C, od, .fields #[.ref s.heap.objs.size, .none, .none, .none, .bool false, .none], osl⟩ := by rw [e]; exact hupd
    have w1 := I.write (x := x) (e := x) (o := exN x C od) (t' := s.toks) (h' := h') (by rw [hx]; exact True.intro) (.inl rfl) kp ⟨_, hx'⟩
      ⟨⟨_, s.heap.objs.size, hx', rfl, rfl, rfl⟩, ⟨_, hx'⟩, fun g1 g2 ⟨o, t, y1, y2⟩ k => ⟨o, t, k _ y1, y2⟩⟩
    have same : upd H x (exN x C od) = H := by
      funext b
      unfold upd
      by_cases z : b = x
      · rw [if_pos z, z, hx]
      · rw [if_neg z]
    rw [same] at w1
    exact w1
  unfold Builtin.«BaseException.__init__»
  wp_walk
  exact fin _ rfl
def sXset (K : PySem.W.Frag) (ta tv : TE) (f : Str) : TS := fun D σ H => tv σ H fun y H1 => ta σ H1 fun v H2 => ∃ x C, v = .ref x ∧ H2 x = some (exN x C none) ∧ excOver K C = true ∧
  PySem.W.findIn K (.ref C) "__setattr__" = some (some (.builtin "object.__setattr__")) ∧ PySem.W.takerIn K C f = some none ∧ PySem.W.hasDictIn K C = true ∧
  ∀ d, H2 d = none → d ≠ x → D.nx σ (upd (upd H2 d (.xd [(f, y)])) x (exN x C (some d)))
theorem ps_xset {o value : Expr} {f : Str} {pos pos' : Pos} {ta tv : TE} (ha : PE X o ta) (hv : PE X value tv) (hs : swapsWith value (some (.Attribute o f pos')) pos.line X.env = pure false) :
    PS X (.Assign [.Attribute o f pos'] value pos) (sXset X.K ta tv f) := by
  intro pins s σ H D I h
  refine plainObj_wpAny_Assign_Attribute (thn (hv pins s σ H _ I h) fun u s1 ⟨y, H1, I1, ry, q⟩ => thn (ha pins s1 σ H1 _ I1 q) fun ov s2 ⟨v, H2, I2, rx, x, C, ex, hx, hp, hsa, ht, hh, q2⟩ => ?_) hs
  subst ex
  obtain rfl : ov = Value.ref x := rx
  obtain ⟨⟨oe, t, h1, h2, h3, h4⟩, _, _⟩ := (show ObjOk X.prog X.w H2 s2.heap x (exN x C none) from I2.hok x _ hx)
  refine set_first I2.kIn h1 h2 h3 (fun c z => by rw [h4] at z; cases z) hsa hp ht hh fun h' tk kp hx' hns => ?_
  have hsz : H2 s2.heap.objs.size = none := I2.hok.fresh (Nat.le_refl _)
  have ndx : s2.heap.objs.size ≠ x := Nat.ne_of_gt (Heap.lt_size h1)
  refine ⟨σ, _, ?_, q2 s2.heap.objs.size hsz ndx⟩
  have unt : ∀ b, H2 b = none → b ≠ x := fun b e z => by rw [z, hx] at e; cases e
  refine I2.un (h' := h') (t' := tk) ⟨fun b o e n _ _ => kp b o (unt b n) e, fun b o e n _ _ => ⟨o.slots, kp b o (unt b n) e⟩, fun b o e n _ => ?_, fun b o e _ => ?_, fun b xs e => ?_, fun b o u e => ?_, fun b ps e => ⟨#[], ?_⟩⟩ ?_
  · rw [upd_ne (unt b n), upd_ne (Nat.ne_of_lt (Heap.lt_size e))]
    exact n
  · by_cases z : b = x
    · exact ⟨_, z ▸ hx'⟩
    · exact ⟨o, kp b o z e⟩
  · rw [upd_ne (ne_of e hx (by intro z; cases z)), upd_ne (ne_of_none e hsz)]
    exact e
  · rw [upd_ne (ne_of e hx (by intro z; cases z)), upd_ne (ne_of_none e hsz)]
    exact e
  · rw [upd_ne (ne_of e hx (by intro z; cases z)), upd_ne (ne_of_none e hsz), e]
    simp
  · intro b u e
    by_cases zx : b = x
    · subst zx
      rw [upd_same] at e
      cases e
      exact ⟨⟨_, t, hx', h2, rfl, h4⟩, ⟨_, hx'⟩, fun g1 g2 ⟨o, t, y1, y2⟩ k => ⟨o, t, k _ y1, y2⟩⟩
    · rw [upd_ne zx] at e
      by_cases zd : b = s2.heap.objs.size
      · subst zd
        rw [upd_same] at e
        cases e
        refine ⟨_, hns, fun g => ?_⟩
        by_cases zf : g = f
        · subst zf
          rw [if_pos rfl, List.lookup_cons_self]
          exact ry
        · rw [if_neg zf]
          have nb : (g == f) = false := by
            cases q : (g == f) with
            | false => rfl
            | true => exact absurd (eq_of_beq q) zf
          rw [List.lookup_cons, nb]
          exact True.intro
      · rw [upd_ne zd] at e
        refine (I2.hok b u e).stay (fun c v hc z => kp c v (fun zz => ?_) z) (fun c z => ?_) fun c xs z => ?_
        · rcases hc with hc | hc
          · exact zx (hc.symm.trans zz)
          · rw [zz, hx] at hc
            cases hc
        · rw [upd_ne (ne_of z hx (by intro y; cases y)), upd_ne (ne_of_none z hsz)]
          exact z
        · rw [upd_ne (ne_of z hx (by intro y; cases y)), upd_ne (ne_of_none z hsz)]
          exact z
end
end XL
end
section
set_option Elab.async false
set_option maxRecDepth 100000
set_option maxHeartbeats 4000000
namespace XL
open PySem PySem.Spec PyProof.Rows L2
structure ClsRead (K : PySem.W.Frag) (C : Addr) (m : Str) (f : Addr) : Prop where
  ga : PySem.W.specialIn K (.ref C) "__getattribute__" = some (some (.builtin "type.__getattribute__"))
  rd : PySem.W.readsIn K C (.type "type") = true
  at_ : PySem.W.findCls K (.ref C) (.type "type") m = some (.val (.ref f))
  kp : PySem.W.keepIn K (.ref f) = true
theorem xi_cls (K : PySem.W.Frag) : PySem.W.findCls K (.type "Exception") (.type "type") "__init__" = some (.val (.builtin "Exception.__init__")) := by kernel_rfl
section
variable {X : Cx} {CX : CXT} {k : Nat} {f C : Addr} {fd : FuncData} {ps : List Str} {sp : Sp} {dvs : List V} {ds : List Value} {E : XK} {m : Str} {pos apos : Pos} {e o : Expr} {es : List Expr} {ta : TE} {t : TA}
theorem pe_clsm {pl : Sem Bool} (he : PE X o (tC (.ref C))) (hm : ClsRead X.K C m f) (F : FnOk X.prog X.w X.K X.mg X.base CX k f fd ps sp) (hr : Room k X.A) (hb : Binds X.K fd ps ds) (hd : Vals dvs ds) (hx : Passes CX X E) (ha : PA X (e :: es) t)
    (hst : starEach (e :: es) X.env = (false, eval e X.env) :: starEach es X.env := by rfl) (hpl : (backTo pos (starEach es X.env)).any (·.1) = false := by rfl)
    (ht : eval (.Call (.Attribute o m apos) (e :: es) [] pos) X.env = (do
      let ov ← eval o X.env
      standAt apos.atName
      let (f, first) ← holding [ov] (getMethod ov m pl)
      callWith pos f first (backTo pos (starEach (e :: es) X.env)) (backToKw pos (keywordEach [] X.env))) := by rfl) :
    PE X (.Call (.Attribute o m apos) (e :: es) [] pos) (tCall sp dvs E t) := by
  intro pins s σ H Q I h
  refine PySem.W.methodCall_KW (pl := pl) (thn (he pins s σ H (fun v H1 => v = .ref C ∧ H1 = H) I ⟨rfl, rfl⟩) fun u s1 ⟨v, H1, I1, rx, e1, e2⟩ => ?_) ht
  subst e1 e2
  obtain rfl : u = Value.ref C := rx
  refine PySem.W.method_cls I1.kIn hm.ga (PySem.W.cls_value I1.kIn hm.rd hm.at_ rfl ?_)
  have I2 := I1.tok (s1.toks + 1)
  refine PySem.W.callWith_K (first := []) (h₀ := X.base) I.ok.mod.kin hm.kp (thn (ha pos pins _ σ H1 _ I2 h) fun us s2 ⟨vs, H2, I3, r, q2⟩ => ⟨I3.kIn, ?_⟩) hst hpl
  exact run_fn F hr hb hd hx I3 r q2
theorem pe_xinit {pl : Sem Bool} {p : Pos} (hg : Gl X "Exception") (hm : X.mg "Exception" = none) (ha : PA X [e] t)
    (hst : starEach [e] X.env = [(false, eval e X.env)] := by rfl)
    (ht : eval (.Call (.Attribute (.Name "Exception" p) "__init__" apos) [e] [] pos) X.env = (do
      let ov ← eval (.Name "Exception" p) X.env
      standAt apos.atName
      let (f, first) ← holding [ov] (getMethod ov "__init__" pl)
      callWith pos f first (backTo pos (starEach [e] X.env)) (backToKw pos (keywordEach [] X.env))) := by rfl) :
    PE X (.Call (.Attribute (.Name "Exception" p) "__init__" apos) [e] [] pos) (tCB (fun xs H Q => ∃ x C dd, xs = [.ref x] ∧ H x = some (exN x C dd) ∧ excOver X.K C = true ∧ Q .non H) t) := by
  intro pins s σ H Q I h
  refine PySem.W.methodCall_KW (pl := pl) (ld_blt I hg hm (u := .type "Exception") (by decide +kernel) ?_ (by decide) (by decide)) ht
  obtain ⟨mm, hfr⟩ := I.fr
  refine PySem.W.method_type hfr I.ok.mod.kin (by kernel_rfl) (by decide +kernel) (xi_cls X.K) (by decide +kernel) ?_
  have I2 := I.tok (s.toks + 1)
  exact PyProof.Rows.callWith_builtin1 (thn (ha pos pins _ σ H _ I2 h) fun us s1 ⟨vs, H1, I1, r1, q1⟩ => cr_init pins s1 σ H1 vs us Q I1 r1 q1) hst rfl
end
structure XCls (K : PySem.W.Frag) (C : Addr) : Prop where
  over : excOver K C = true
  sa : PySem.W.findIn K (.ref C) "__setattr__" = some (some (.builtin "object.__setattr__"))
  tk : PySem.W.takerIn K C "number" = some none
  hd : PySem.W.hasDictIn K C = true
  ga : PySem.W.findIn K (.ref C) "__getattribute__" = some (some (.builtin "BaseException.__getattribute__"))
  gh : PySem.W.findIn K (.ref C) "__getattr__" = some none
  nn : PySem.W.findIn K (.ref C) "number" = some none
def spR (K : PySem.W.Frag) : Sp := fun vs H Q _ => ∃ x C n, vs = [.ref x, .int n] ∧ H x = some (exN x C none) ∧ XCls K C ∧ ∀ d, H d = none → d ≠ x → Q .non (upd (upd H d (.xd [("number", .int n)])) x (exN x C (some d)))
def spI (K : PySem.W.Frag) (n : Int) : Sp := fun vs H Q _ => ∃ x C, vs = [.ref x] ∧ H x = some (exN x C none) ∧ XCls K C ∧ ∀ d, H d = none → d ≠ x → Q .non (upd (upd H d (.xd [("number", .int n)])) x (exN x C (some d)))
end XL
end
section
set_option Elab.async false
set_option maxRecDepth 100000
set_option maxHeartbeats 4000000
set_option linter.unusedVariables false
namespace XL
open PySem PySem.Spec PyProof.Rows L2
structure XMk (K : PySem.W.Frag) (C fI : Addr) : Prop where
  cls : ∃ nm q N bs bm hdct sn sub ab col dd k0 k1 k2 k3 k5, K.lookup C = some (excClassObj nm q C N bs bm hdct sn sub ab col dd k0 k1 k2 k3 k5 "Exception.__new__") ∧ bm.contains (.type "Exception") = true ∧
    bm.contains (.type "AttributeError") = false ∧ bm.contains (.type "NameError") = false ∧ bm.contains (.type "BaseException") = true
  init : PySem.W.findIn K (.ref C) "__init__" = some (some (.ref fI))
  fn : PySem.W.isFn K (.ref fI) = true
  kp : PySem.W.keepIn K (.ref C) = true
def Throws (X : Cx) (E : XK) : Prop := ∀ (pins : List (Addr × Obj)) (σ : L2.St) (H : Hp) (s : Shared) (m : Nat) (e C d : Addr), Inv X pins σ H s → X.s_0.heap.objs.size ≤ m → (∀ p ∈ X.pn ++ pins, p.1 < m) → Fly m H s.heap e C d → E (.ref C) (some d) H → X.xe (.ref e) s
theorem Throws.passes {X : Cx} {E : XK} (t : Throws X E) : Passes (CXr X.prog X.w) X E := by
  intro pins σ H s v s' I h
  obtain ⟨e, C, d, H', rfl, os, bare, un, hok, F, hE⟩ := h
  have I' := I.call' (ch := []) os un hok bare (fun b z => absurd z (by simp))
  exact t pins σ H' s' s.heap.objs.size e C d I' I.sz (fun p hp => Heap.lt_size (I.pin p hp).1) F hE
theorem throws_of {P : Program} {w : World} {K : PySem.W.Frag} {mg : Str → Option Value} {base : Heap} {N : List Str} {qual : Str} {scope : Scope} {f : Addr} {cd : Value} {A : Around} {outer : List Env} {s0 : Shared} {H0 : Hp} {E : XK} :
    Throws (cxOf (CXr P w) P w K mg base N qual scope f cd A outer s0 H0 E) E := fun pins σ H s m e C d I hm _ F hE => leaves I (F.grow hm) hE
def tRaise (C : Addr) (n : Int) (E : XK) : TS := fun _ _ H => ∀ e d H', (∀ b o, H b = some o → H' b = some o) → H' e = some (exO e C d) → H' d = some (.xd [("number", .int n)]) → E (.ref C) (some d) H'
theorem fn_obj {K : PySem.W.Frag} {f : Addr} (h : PySem.W.isFn K (.ref f) = true) {g : Heap} (X : K.In g) : ∃ o, g.get? f = some o ∧ o.cls = .type "function" := by
  have e := beq_iff_eq.mp h
  unfold PySem.W.typeIn at e
  simp only at e
  cases q : K.lookup f with
  | none => rw [q] at e; cases e
  | some o =>
    rw [q] at e
    exact ⟨o, X _ _ q, Option.some.inj e⟩
theorem ps_raise {X : Cx} {C fI : Addr} {x : Str} {np cpos pos : Pos} {n : Int} {E : XK} {k : Nat} {fd : FuncData} (M : XMk X.K C fI) (hc : XCls X.K C) (F : FnOk X.prog X.w X.K X.mg X.base (CXr X.prog X.w) k fI fd ["self"] (spI X.K n)) (hr : Room (k + 1) X.A)
    (hg : Gl X x) (hm : X.mg x = some (.ref C)) (hb : Binds X.K fd ["self"] []) (calm : X.calm = true) (th : Throws X E) (hdb : (x == ("__debug__" : Str)) = false := by decide) :
    PS X (.Raise (some (.Call (.Name x np) [] [] cpos)) none pos) (tRaise C n E) := by
  intro pins s σ H D I h
  obtain ⟨nm, q, N, bs, bm, hdct, sn, sub, ab, col, dd, k0, k1, k2, k3, k5, hC, b1, b2, b3, b4⟩ := M.cls
  rw [arm_exec_Raise]
  refine wpAny_bind (wpAny_standAt (raise_own (C := C) (nm := nm) (q := q) (N := N) (bs := bs) (bm := bm) (hdct := hdct) (sn := sn) (sub := sub) (ab := ab) (col := col) (dd := dd) (k0 := k0) (k1 := k1) (k2 := k2) (k3 := k3) (k5 := k5) (newId := "Exception.__new__") b4 (I.ok.hd calm) ?_))
  refine wpAny_bind (wpAny_mono (Q := fun v s1 => ∃ e t od osl, v = .ref e ∧ s1.heap.get? C = some (excClassObj nm q C N bs bm hdct sn sub ab col dd k0 k1 k2 k3 k5 "Exception.__new__") ∧
      s1.heap.get? e = some ⟨.ref C, od, .fields #[.ref t, .none, .none, .none, .bool false, .none], osl⟩ ∧ X.xe (.ref e) s1) (E := X.xe) ?_ (fun v s3 h3 => wpAny_bind (wpAny_standAt (wpAny_pure h3))) fun _ _ z => z)
  refine wpAny_Call_Name_kw (ld_glob I hg hm ?_ hdb)
  refine PySem.W.callWith_K0 (first := []) I.kIn M.kp ?_
  obtain ⟨oI, hoI, hfc⟩ := fn_obj M.fn I.kIn
  obtain ⟨hp, g, dr, tk, os⟩ := s
  refine call_own (w := X.w) PySem.F.excBase_Exception b1 b2 b3 (I.kIn _ _ hC) (PySem.W.looks_findIn I.kIn M.init) hoI hfc ?_
  generalize hg2 : ((hp.push { cls := .type "tuple", data := .seq #[] }).push { cls := .ref C, data := .fields #[.ref hp.objs.size, .none, .none, .none, .bool false, .none] }) = h2
  have up : ∀ b u, hp.get? b = some u → h2.get? b = some u := fun b u e => by rw [← hg2]; exact Heap.get?_push_of_some _ (Heap.get?_push_of_some _ e)
  have hx : h2.get? (hp.objs.size + 1) = some ⟨.ref C, none, .fields #[.ref hp.objs.size, .none, .none, .none, .bool false, .none], #[]⟩ := by rw [← hg2]; heap_get
  have I1 : Inv X pins σ (upd H (hp.objs.size + 1) (exN (hp.objs.size + 1) C none)) ⟨h2, g, dr, tk, os⟩ :=
    I.laid (a := hp.objs.size + 1) (t' := tk) up (Nat.le_succ _) ⟨⟨_, hp.objs.size, hx, rfl, rfl, rfl⟩, ⟨_, hx⟩, fun g1 g2 ⟨o, t, y1, y2⟩ k => ⟨o, t, k _ y1, y2⟩⟩
  have hHe : H (hp.objs.size + 1) = none := I.hok.fresh (Nat.le_succ _)
  have hsp : spI X.K n [.ref (hp.objs.size + 1)] (upd H (hp.objs.size + 1) (exN (hp.objs.size + 1) C none)) (fun v H2 => v = .non ∧ ∃ d, H d = none ∧ d ≠ hp.objs.size + 1 ∧ H2 = upd (upd (upd H (hp.objs.size + 1) (exN (hp.objs.size + 1) C none)) d (.xd [("number", .int n)])) (hp.objs.size + 1) (exN (hp.objs.size + 1) C (some d))) (fun _ _ _ => False) :=
    ⟨_, C, rfl, upd_same, hc, fun d hd hne => ⟨rfl, d, by rw [upd_ne hne] at hd; exact hd, hne, rfl⟩⟩
  refine wpAny_call (codeAny_mono (F.run _ X.stack ⟨h2, g, dr, tk, os⟩ _ ⟨[.ref (hp.objs.size + 1)], []⟩ [.ref (hp.objs.size + 1)] [.ref (hp.objs.size + 1)] _ _ (hr.make C [] []) (I1.env0.make C [] []) (hb _ [.ref (hp.objs.size + 1)] I1.kIn rfl) (.cons rfl .nil) hsp) fun r s' hq => ?_)
  cases r with
  | error v =>
    obtain ⟨_, _, _, _, _, _, _, _, _, _, z⟩ := hq
    exact False.elim z
  | ok fl =>
    cases fl with
    | next => exact False.elim hq
    | brk => exact False.elim hq
    | cont => exact False.elim hq
    | ret u =>
      obtain ⟨v, H2, I3, rv, ev, d, hd, hne, eH⟩ := I1.after hq
      subst ev
      refine ⟨rv, ?_⟩
      have ex : H2 (hp.objs.size + 1) = some (exN (hp.objs.size + 1) C (some d)) := by rw [eH]; exact upd_same
      obtain ⟨⟨oe, t, y1, y2, y3, y4⟩, _, _⟩ := (show ObjOk X.prog X.w H2 s'.heap (hp.objs.size + 1) (exN (hp.objs.size + 1) C (some d)) from I3.hok _ _ ex)
      obtain ⟨oc, od, odt, osl⟩ := oe
      dsimp only at y2 y3 y4
      subst y2 y3 y4
      have I4 : Inv X pins σ (upd H2 (hp.objs.size + 1) (exO (hp.objs.size + 1) C d)) s' := by
        have w1 := I3.write (x := hp.objs.size + 1) (e := hp.objs.size + 1) (o := exO (hp.objs.size + 1) C d) (t' := s'.toks) (h' := s'.heap) (by rw [ex]; exact True.intro) (.inl rfl) (fun b z _ e => e) ⟨_, y1⟩
          ⟨⟨_, _, y1, rfl, rfl, rfl⟩, ⟨_, y1⟩, fun g1 g2 ⟨o, t, z1, z2⟩ k => ⟨o, t, k _ z1, z2⟩⟩
        exact w1
      refine ⟨hp.objs.size + 1, t, some d, osl, rfl, I3.kIn _ _ hC, y1, ?_⟩
      refine th pins σ _ s' hp.objs.size (hp.objs.size + 1) C d I4 I.sz (fun p hp => Heap.lt_size (I.pin p hp).1) ⟨upd_same, Nat.le_succ _, .none, ⟨_, _, y1, rfl, rfl, rfl, rfl⟩, .inl rfl⟩ ?_
      refine h (hp.objs.size + 1) d _ (fun b o e => ?_) upd_same ?_
      · have nb : b ≠ hp.objs.size + 1 := ne_of_none e hHe
        rw [upd_ne nb, eH, upd_ne nb, upd_ne (ne_of_none e hd), upd_ne nb]
        exact e
      · rw [upd_ne hne, eH, upd_ne hne]
        exact upd_same
end XL
end
section
set_option Elab.async false
set_option maxRecDepth 100000
set_option maxHeartbeats 4000000
namespace XL
open PySem PySem.Spec PyProof.Rows L2
section
variable {X : Cx} {pins : List (Addr × Obj)} {σ : L2.St} {H : Hp} {s : Shared} {e C d : Addr}
theorem inv_station {as : List Addr} {fl : Value} {h' : Heap} {m : Nat} (I : Inv X pins σ H s) (F : Fly m H s.heap e C d) (hm : X.s_0.heap.objs.size ≤ m) (hp : ∀ p ∈ X.pn ++ pins, p.1 < m)
    (g3 : ∀ b ∈ as, b = e ∨ H b = none) (g4 : ∀ b ∈ as, b ∈ frs X.stack ∨ m ≤ b) (g6 : ∀ b ∈ as, b = e ∨ b ∈ frs X.stack ∨ ∃ o vs, s.heap.get? b = some o ∧ o.data = .fields vs)
    (S : Stn (PySem.W.hideAll s.heap as) X.stack e (.ref C) (some d) fl s.heap h') : Inv X pins σ H { s with heap := h' } := by
  have hst := I.stack
  have fd : ∀ b ∈ frs X.stack, ∀ o vs, s.heap.get? b = some o → o.data ≠ .fields vs := fun b hb o vs ho hd => by
    obtain ⟨_, o', ho', hd'⟩ := hst.mem hb
    rw [ho] at ho'
    cases ho'
    exact hd' vs hd
  have isT : ∀ b, b ∈ (as.filter fun b => decide (b ≠ e) && decide (b ∉ frs X.stack)) ↔ b ∈ as ∧ b ≠ e ∧ b ∉ frs X.stack := fun b => by
    rw [List.mem_filter, Bool.and_eq_true, decide_eq_true_eq, decide_eq_true_eq]
  refine I.call' (s' := { s with heap := h' }) (ch := as.filter fun b => decide (b ≠ e) && decide (b ∉ frs X.stack)) rfl ⟨fun b o q n hb hx => ?_, fun b o q n hb hx => ?_, fun b o q n hx => n, fun b o q hx => ?_, fun _ _ q => q, fun _ _ _ q => q, fun b ps q => ⟨#[], by rw [q]; simp⟩⟩ (hok_station I.hok F.ex g3 S) I.bare fun b hb => ?_
  · refine S.st b o (PySem.W.hideAll_get _ q fun z => hx ((isT b).mpr ⟨z, fun y => ?_, hb⟩))
    rw [y, F.ex] at n
    cases n
  · exact S.sl b o q fun vs z => fd b hb o vs q z
  · by_cases z : b ∈ as
    · by_cases ze : b = e
      · subst ze
        obtain ⟨_, ⟨oe, _, x1, _⟩, _⟩ := S.ex
        exact ⟨oe, x1⟩
      · by_cases zf : b ∈ frs X.stack
        · obtain ⟨_, o', ho', _⟩ := S.fr.mem zf
          exact ⟨o', ho'⟩
        · exact absurd ((isT b).mpr ⟨z, ze, zf⟩) hx
    · exact ⟨o, S.st b o (PySem.W.hideAll_get _ q z)⟩
  · obtain ⟨z, ze, zf⟩ := (isT b).mp hb
    have hmb : m ≤ b := (g4 b z).elim (fun y => absurd y zf) id
    obtain ⟨o, vs, ho, hd⟩ := (g6 b z).elim (fun y => absurd y ze) fun y => y.elim (fun y => absurd y zf) id
    refine ⟨.inr (Nat.le_trans hm hmb), fun y => ?_, fun x c hc y => ?_, fun p hpp y => ?_⟩
    · obtain ⟨mm, ⟨o', es, ep, ho', hd', _⟩, _⟩ := I.loc
      rw [← y, ho] at ho'
      cases ho'
      rw [hd] at hd'
      cases hd'
    · obtain ⟨v, o', ho', hd'⟩ := I.cell x c hc
      rw [y, ho] at ho'
      cases ho'
      rw [hd] at hd'
      cases hd'
    · have := hp p hpp
      rw [y] at this
      exact absurd this (Nat.not_lt.mpr hmb)
theorem inv_forget {h' : Heap} {m' : Str → Option Value} {tk : Nat} (I : Inv X pins σ H s) (hn : h'.Ns X.env.locals m') (hs : Heap.SameBut X.env.locals s.heap h') : Inv X pins (List.replicate σ.length none) H { s with heap := h', toks := tk } := by
  have neL : ∀ b o, X.s_0.heap.get? b = some o → b ≠ X.env.locals := fun b o e => Nat.ne_of_lt (Nat.lt_of_lt_of_le (Heap.lt_size e) I.ok.above)
  refine ⟨I.ok, I.os, I.bare, ⟨fun b o e n hb hx => (hs.2 b (neL b o e)).trans (I.base.keep b o e n hb hx), fun b o e n hb hx => ?_, I.base.free, fun b o e hx => ?_, I.base.tups, I.base.frzs, I.base.tbls⟩, ⟨m', hn, fun j y v' e1 e2 e3 => ?_⟩, fun y c e => ?_, I.free, I.freeC, fun p hp => ?_, fun b ob e => ?_, by rw [List.length_replicate]; exact I.len⟩
  · obtain ⟨sl, e1⟩ := I.base.slot b o e n hb hx
    exact ⟨sl, (hs.2 b (neL b o e)).trans e1⟩
  · obtain ⟨o', e1⟩ := I.base.there b o e hx
    exact ⟨o', (hs.2 b (neL b o e)).trans e1⟩
  · rw [List.getElem?_replicate] at e2
    split at e2 <;> cases e2
  · obtain ⟨w', z⟩ := I.cell y c e
    exact ⟨w', z.sameBut hs (I.cne y c e)⟩
  · obtain ⟨e, n, ne, nf, dd⟩ := I.pin p hp
    exact ⟨(hs.2 p.1 ne).trans e, n, ne, nf, dd⟩
  · refine (I.hok b ob e).stay (fun c w' hc q => (hs.2 c ?_).trans q) (fun _ q => q) fun _ _ q => q
    intro z
    rcases hc with hc | hc
    · rw [← hc, z, I.free] at e
      cases e
    · rw [z, I.free] at hc
      cases hc
abbrev sui (X : Cx) (e : Addr) (E : Value → Shared → Prop) : Cx := { X with A := X.A.mark (some (.ref e)), calm := false, xe := E }
abbrev inTry (X : Cx) (pn : List (Addr × Obj)) (E : Value → Shared → Prop) : Cx := { X with xe := E, pn := pn }
theorem inv_sui (I : Inv X pins σ H s) (e : Addr) (E : Value → Shared → Prop) : Inv (sui X e E) pins σ H s :=
  ⟨⟨I.ok.mod, I.ok.kind, I.ok.glob, I.ok.blt, I.ok.above, I.ok.inj, I.ok.has, I.ok.cab, fun z => Bool.noConfusion z, I.ok.frames, I.ok.stk, I.ok.exf, I.ok.bs, I.ok.bsz, I.ok.noex, I.ok.exfs, I.ok.funs, I.ok.frf⟩, I.os, I.bare, I.base, I.loc, I.cell, I.free, I.freeC, I.pin, I.hok, I.len⟩
theorem of_sui {E : Value → Shared → Prop} {hd : X.calm = true → X.A.handled = none} (I : Inv (sui X e E) pins σ H s) : Inv X pins σ H s :=
  ⟨⟨I.ok.mod, I.ok.kind, I.ok.glob, I.ok.blt, I.ok.above, I.ok.inj, I.ok.has, I.ok.cab, hd, I.ok.frames, I.ok.stk, I.ok.exf, I.ok.bs, I.ok.bsz, I.ok.noex, I.ok.exfs, I.ok.funs, I.ok.frf⟩, I.os, I.bare, I.base, I.loc, I.cell, I.free, I.freeC, I.pin, I.hok, I.len⟩
theorem inv_try (I : Inv X pins σ H s) (E : Value → Shared → Prop) : Inv (inTry X (X.pn ++ pins) E) [] σ H s :=
  ⟨⟨I.ok.mod, I.ok.kind, I.ok.glob, I.ok.blt, I.ok.above, I.ok.inj, I.ok.has, I.ok.cab, I.ok.hd, I.ok.frames, I.ok.stk, I.ok.exf, I.ok.bs, I.ok.bsz, I.ok.noex, I.ok.exfs, I.ok.funs, I.ok.frf⟩, I.os, I.bare, I.base, I.loc, I.cell, I.free, I.freeC, fun p hp => I.pin p (by rw [List.append_nil] at hp; exact hp), I.hok, I.len⟩
theorem of_try {E : Value → Shared → Prop} {qs : List (Addr × Obj)} (I : Inv (inTry X (X.pn ++ pins) E) qs σ H s) : Inv X pins σ H s :=
  ⟨⟨I.ok.mod, I.ok.kind, I.ok.glob, I.ok.blt, I.ok.above, I.ok.inj, I.ok.has, I.ok.cab, I.ok.hd, I.ok.frames, I.ok.stk, I.ok.exf, I.ok.bs, I.ok.bsz, I.ok.noex, I.ok.exfs, I.ok.funs, I.ok.frf⟩, I.os, I.bare, I.base, I.loc, I.cell, I.free, I.freeC, fun p hp => I.pin p (List.mem_append_left _ hp), I.hok, I.len⟩
end
end XL
end
section
set_option Elab.async false
set_option maxRecDepth 100000
set_option maxHeartbeats 4000000
set_option linter.unusedVariables false
namespace XL
open PySem PySem.Spec PyProof.Rows L2
def tXnum (K : PySem.W.Frag) (ta : TE) : TE := fun σ H Q => ta σ H fun v H1 => ∃ x C d n, v = .ref x ∧ H1 x = some (exO x C d) ∧ H1 d = some (.xd [("number", .int n)]) ∧ XCls K C ∧ Q (.int n) H1
theorem pe_xnum {X : Cx} {e : Expr} {pos : Pos} {ta : TE} (he : PE X e ta) (hb : attributeBase e "number" X.env (eval e X.env) = eval e X.env) : PE X (.Attribute e "number" pos) (tXnum X.K ta) := by
  intro pins s σ H Q I h
  refine attr_of hb (thn (he pins s σ H _ I h) fun u s1 ⟨v, H1, I1, rx, x, C, d, n, ex, hx, hd, hc, q⟩ => ?_)
  subst ex
  obtain rfl : u = Value.ref x := rx
  obtain ⟨⟨oe, vs, h1, h2, h3, h4⟩, _, _⟩ := (show ObjOk X.prog X.w H1 s1.heap x (exO x C d) from I1.hok x _ hx)
  obtain ⟨mA, hns, hrel⟩ := (show ObjOk X.prog X.w H1 s1.heap d (.xd [("number", .int n)]) from I1.hok d _ hd)
  have hr := hrel "number"
  rw [List.lookup_cons_self] at hr
  obtain ⟨u, hu, ru⟩ := RelO.some_of hr
  obtain ⟨t, rfl⟩ := (show ∃ t, u = Value.int n t from ru)
  obtain ⟨od, hod, hl⟩ := lookIn_ns hns
  have nc : PySem.W.notCls oe = true := by
    unfold PySem.W.notCls
    obtain ⟨_, _, dt, _⟩ := oe
    cases dt <;> first | rfl | cases h4
  have J : PySem.W.InstAt s1.heap x oe C (some od) := ⟨h1, h2, nc, by rw [h3]; exact hod⟩
  refine get_exc I1.kIn J hc.over hc.ga hc.gh (PySem.W.findObj_own hc.hd hc.nn rfl (by rw [hl, hu])) rfl ?_
  exact ⟨.int n, H1, I1.tok _, ⟨t, rfl⟩, q⟩
def xCaught (K : PySem.W.Frag) (Rc : Addr) (D : Ends) : XK := fun c dd H => ∃ C d n, c = .ref C ∧ dd = some d ∧ XCls K C ∧ PySem.W.exmOne K (.ref C) (.ref Rc) = some true ∧ H d = some (.xd [("number", .int n)]) ∧ ∀ l, H l = none → D.rt (.ref l) (upd H l (.lst [.int n]))
def tTry (K : PySem.W.Frag) (Rc : Addr) (tb : XK → TS) : TS := fun D σ H => tb (xCaught K Rc D) { D with nx := fun _ _ => False } σ H
theorem ps_tryRef {X : Cx} {Rc : Addr} {body : List Stmt} {cn x : Str} {i : Nat} {p1 p2 p3 p4 p5 hp pos : Pos} {tb : XK → TS} (calm : X.calm = true) (hN : X.N.Nodup) (hi : X.N[i]? = some x) (hloc : X.env.scope.names.lookup x = some .local) (hg : Gl X cn) (hm : X.mg cn = some (.ref Rc))
    (hst : X.stack = X.env :: X.outer) (hfr : X.env.frame = some X.env.locals)
    (hb : ∀ (pn : List (Addr × Obj)) (xe : Value → Shared → Prop) (E : XK), Throws (inTry X pn xe) E → PSs (inTry X pn xe) body (tb E))
    (hat : ∀ e E, attributeBase (.Name x p4) "number" (sui X e E).env (eval (.Name x p4) (sui X e E).env) = eval (.Name x p4) (sui X e E).env := by intro _ _; rfl) (hdb : (cn == ("__debug__" : Str)) = false := by decide) (hdx : (x == ("__debug__" : Str)) = false := by decide) (hcx : (x == ("__classdict__" : Str)) = false := by decide) :
    PS X (.Try body [.ExceptHandler (some (.Name cn p1)) (some x) [.Return (some (.List [.Attribute (.Name x p4) "number" p3] p2)) p5] hp] [] [] pos) (tTry X.K Rc tb) := by
  intro pins s σ H D I h
  refine wpAny_Try_except ?_
  refine wpAny_mono (hb (X.pn ++ pins) (fun v s1 => wpAny (model X.prog X.w) X.A (noteFrame v X.env) (fun _ s2 => wpAny (model X.prog X.w) X.A (setFlight v none) (fun _ s3 =>
      wpAny (model X.prog X.w) X.A (handleBy v X.env [.ExceptHandler (some (.Name cn p1)) (some x) [.Return (some (.List [.Attribute (.Name x p4) "number" p3] p2)) p5] hp]) (SP X pins D) X.xe s3) X.xe s2) X.xe s1)
    (xCaught X.K Rc D) ?_ [] s σ H _ (inv_try I _) h) (fun f s1 q => ?_) fun _ _ z => z
  · -- an exception comes
    intro qs σ1 H1 s1 m e C d J hm1 hpn F hE
    have I1 := of_try J
    have I1' : Inv X pins σ1 H1 s1 := I1
    obtain ⟨as, g1, g2, g3, g4, g5, g6⟩ := F.ground (frs X.stack) I1.stkFree
    have hpins : ∀ p ∈ X.pn ++ pins, p.1 < m := fun p hp => hpn p (List.mem_append_left _ hp)
    have hfun := PySem.W.funFrames_hide I1.stack fun env he b hb => g1 b (List.mem_filterMap.mpr ⟨env, he, hb⟩)
    have frames : X.A.frames = some (X.env :: X.outer) := by rw [← hst]; exact I1.ok.frames
    rw [hst] at hfun
    show wpAny _ _ (noteFrame (.ref e) X.env) _ _ _
    refine note_ok (base := PySem.W.hideAll s1.heap as) frames hfun hfr g5 (fun b o q => PySem.W.of_hideAll _ q) (PySem.W.hideAll_none _ g2) fun h2 S2 => ?_
    refine flight_ok (s := { s1 with heap := h2 }) S2 fun h3 S3 => ?_
    rw [← hst] at S3
    have I3 : Inv X pins σ1 H1 { s1 with heap := h3 } := inv_station I1 F hm1 hpins g3 g4 g6 S3
    have F3 : Fly m H1 h3 e C d := F.station I1.hok (Nat.le_of_not_lt fun z => by
      have := F.new
      obtain ⟨⟨oe, _, x1, _⟩, _, _⟩ := (show ObjOk X.prog X.w H1 s1.heap e (exO e C d) from I1.hok e _ F.ex)
      exact absurd (Nat.lt_of_lt_of_le (Nat.lt_of_lt_of_le z this) (Nat.le_of_lt (Heap.lt_size x1))) (Nat.lt_irrefl _)) S3
    obtain ⟨C', d', n, e1, e2, hc, hx, hd, k⟩ := hE
    cases e1
    cases e2
    have J3 := inv_sui I3 e (fun _ _ => False)
    refine wpAny_handleBy_cons (codeAny_handlers_test (ld_glob (X := sui X e fun _ _ => False) J3 hg hm ?_ hdb)) (by intro q; cases q)
    obtain ⟨oe, vs, x1, x2, x3, x4⟩ := (show ObjOk X.prog X.w H1 h3 e (exO e C d) from I3.hok e _ F3.ex).1
    have LT : PySem.W.Looks (model X.prog X.w) h3 (typeOf (.ref e)) (.ref C) := x2 ▸ (PySem.W.Looks.ld x1).andThen .now
    refine PySem.W.Looks.here (s := { s1 with heap := h3 }) (PySem.W.exm_one I3.kIn LT hx) ?_
    refine codeAny_handlers_suite_as ?_
    obtain ⟨bs, k1, k2, k3, k4, k5, k6⟩ := F3.ground (frs X.stack) I3.stkFree
    have hfun3 := PySem.W.funFrames_hide I3.stack fun env he b hb => k1 b (List.mem_filterMap.mpr ⟨env, he, hb⟩)
    obtain ⟨T, y1, y2, y3, y4, y5⟩ := S3.ex
    have again : ∀ (A' : Around) (Q' : Unit → Shared → Prop) (E' : Value → Shared → Prop), (∀ h4, Inv X pins σ1 H1 { s1 with heap := h4 } → Q' () { s1 with heap := h4 }) → wpAny (model X.prog X.w) A' (setFlight (.ref e) none) Q' E' { s1 with heap := h3 } := fun A' Q' E' hq => by
      refine flight_ok (s := { s1 with heap := h3 }) (base := PySem.W.hideAll s1.heap as) (h0 := s1.heap) S3 fun h4 S4 => hq h4 ?_
      exact inv_station I1 F hm1 hpins g3 g4 g6 S4
    refine again _ _ _ fun h4 I4 => ?_
    have J4 := inv_sui I4 e (fun _ _ => False)
    refine store_ok (X := sui X e fun _ _ => False) (i := i) (v := .ref e) J4 hN hi (.inl hloc) rfl (fun s5 J5 => ?_) (.inr hloc)
    have body : PSs (sui X e fun _ _ => False) [.Return (some (.List [.Attribute (.Name x p4) "number" p3] p2)) p5] _ := pss_one (ps_ret (pe_lst (pa_cons (pe_xnum (pe_var (i := i) hi (.inl hloc) hdx hcx) (hat e _)) pa_nil)))
    have hiσ : i < σ1.length := by rw [I4.len]; exact (List.getElem?_eq_some_iff.mp hi).1
    refine wpAny_mono (body pins s5 (σ1.set i (some (.ref e))) H1 { nx := fun _ _ => False, rt := D.rt } J5 ⟨_, List.getElem?_set_self hiσ, e, C, d, n, rfl, F.ex, hd, hc, by show 1 ≤ sizeLine; decide, fun l hl => k l hl⟩) (fun f s6 q6 => ?_) fun _ _ z => False.elim z
    cases f with
    | next => obtain ⟨_, _, _, z⟩ := q6; exact False.elim z
    | brk => obtain ⟨_, _, _, z⟩ := q6; exact False.elim z
    | cont => obtain ⟨_, _, _, z⟩ := q6; exact False.elim z
    | ret u =>
      obtain ⟨v, σ6, H6, J6, rv, q6⟩ := q6
      have I6 : Inv X pins σ6 H6 s6 := of_sui (hd := I.ok.hd) J6
      obtain ⟨m6, hn6, _⟩ := id I6.loc
      refine wpAny_nameGoes hloc hn6 (by rw [I6.ok.kind]; rfl) fun h7 m7 hn7 hs7 => ?_
      exact ⟨v, _, H6, inv_forget I6 hn7 hs7, rv, q6⟩
  · -- no exception
    cases f with
    | next => obtain ⟨_, _, _, z⟩ := q; exact False.elim z
    | brk => obtain ⟨σ', H', J, z⟩ := q; exact ⟨σ', H', of_try J, z⟩
    | cont => obtain ⟨σ', H', J, z⟩ := q; exact ⟨σ', H', of_try J, z⟩
    | ret u => obtain ⟨v, σ', H', J, r, z⟩ := q; exact ⟨v, σ', H', of_try J, r, z⟩
end XL
end
section
set_option Elab.async false
set_option maxRecDepth 100000
set_option maxHeartbeats 4000000
set_option linter.all false
namespace SB
open PySem PySem.Spec PyProof.Rows L2 XL
def top (i : Nat) : Stmt := PySem.Challenge.pw_stackback_s01_tree.main.body.getD i (.Pass ⟨0, 0, 0, 0⟩)
structure Fn (K : PySem.W.Frag) (mg : Str → Option Value) (x : Str) (st : Stmt) (f : Addr) (fd : FuncData) (ps : List Str) : Prop where
  F : Fun K x x st f fd
  m : mg x = some (.ref f)
  b : Binds K fd ps []
structure Fm (K : PySem.W.Frag) (C : Addr) (x qual : Str) (st : Stmt) (f : Addr) (fd : FuncData) (ps : List Str) : Prop where
  F : Fun K x qual st f fd
  b : Binds K fd ps []
  me : Meth K C x f
section
variable {P : Program} {w : World} {K : PySem.W.Frag} {mg : Str → Option Value} {base : Heap}
theorem okX {x qual : Str} {st : Stmt} {f : Addr} {fd : FuncData} {N ps : List Str} {k : Nat} {sp : Sp} (F : Fun K x qual st f fd) (S : FnScope N ps (defScope st)) (len : ∀ vs H Q E, sp vs H Q E → vs.length = ps.length)
    (hbody : ∀ (cdv : Value) (A : Around) (outer : List Env) (s : Shared) (H : Hp) (vs : List V) (Q : VK) (E : XK), Room k (A.deeper (envOfC qual (defScope st) s.heap.objs.size f cdv)) → sp vs H Q E →
      ∃ t, PSs (cxOf (CXr P w) P w K mg base N qual (defScope st) f cdv A outer s H E) (defBody st) t ∧ t { nx := fun _ H' => Q .non H', rt := Q } (start N vs) H) : FnOk P w K mg base (CXr P w) (k + 1) f fd ps sp := by
  obtain ⟨oc, od, kV, doc, pm, an, cdv, ct, osl, rfl, lk, hcd⟩ := F.ex
  exact fn_of lk hcd S len fun A outer s H vs Q E hr hsp => hbody cdv A outer s H vs Q E hr hsp
end
inductive TV where
  | i (n : Int)
  | s (x : Str)
  | t (l : List TV)
mutual
def isTV (K : PySem.W.Frag) : TV → Value → Bool
  | .i n, v => (match v with | .int j _ => decide (n = j) | _ => false)
  | .s x, v => (match v with | .str y _ => decide (x = y) | _ => false)
  | .t l, v => (match v with
    | .ref a => (match K.lookup a with
      | some ⟨.type c, _, .seq its _, _⟩ => decide (c = "tuple") && areTV K l its.toList && decide (its.size ≤ 1000)
      | _ => false)
    | _ => false)
def areTV (K : PySem.W.Frag) : List TV → List Value → Bool
  | [], vs => vs.isEmpty
  | x :: r, vs => (match vs with | v :: q => isTV K x v && areTV K r q | [] => false)
end
def gTV (K : PySem.W.Frag) (x : Str) (c : TV) : Bool := match PySem.W.nsIn K mainGlobals x with
  | some (some v) => isTV K c v
  | _ => false
inductive Cst (K : PySem.W.Frag) : TV → V → Prop
  | i (n : Int) : Cst K (.i n) (.int n)
  | s (x : Str) : Cst K (.s x) (.str x)
  | t {l : List TV} {a : Addr} {xs : List V} (h : ∀ H : Hp, SqT K H a xs) (hx : Paired (Cst K) l xs) : Cst K (.t l) (.ref a)
mutual
theorem cst_of (K : PySem.W.Frag) : ∀ (c : TV) (v : Value), isTV K c v = true → ∃ x, RelV x v ∧ Cst K c x
  | .i n, v, h => by
    cases v with
    | int j t =>
      have e : n = j := of_decide_eq_true h
      subst e
      exact ⟨.int n, ⟨t, rfl⟩, .i n⟩
    | _ => cases h
  | .s x, v, h => by
    cases v with
    | str y t =>
      have e : x = y := of_decide_eq_true h
      subst e
      exact ⟨.str x, ⟨t, rfl⟩, .s x⟩
    | _ => cases h
  | .t l, v, h => by
    cases v with
    | ref a =>
      unfold isTV at h
      simp only at h
      split at h
      · rename_i c od its n sl q
        rw [Bool.and_eq_true, Bool.and_eq_true, decide_eq_true_eq, decide_eq_true_eq] at h
        obtain ⟨⟨rfl, h1⟩, h2⟩ := h
        obtain ⟨xs, r, hx⟩ := csts_of K l its.toList h1
        exact ⟨.ref a, rfl, .t (fun H => .inr ⟨_, its, n, q, rfl, rfl, Nat.le_trans h2 (by decide), r⟩) hx⟩
      · cases h
    | _ => cases h
theorem csts_of (K : PySem.W.Frag) : ∀ (l : List TV) (vs : List Value), areTV K l vs = true → ∃ xs, Vals xs vs ∧ Paired (Cst K) l xs
  | [], vs, h => by
    cases vs with
    | nil => exact ⟨[], .nil, .nil⟩
    | cons v q => cases h
  | c :: r, vs, h => by
    cases vs with
    | nil => cases h
    | cons v q =>
      have h' : isTV K c v = true ∧ areTV K r q = true := by
        rw [← Bool.and_eq_true]
        exact h
      obtain ⟨x, rx, hx⟩ := cst_of K c v h'.1
      obtain ⟨xs, rxs, hxs⟩ := csts_of K r q h'.2
      exact ⟨x :: xs, .cons rx rxs, .cons hx hxs⟩
end
def GC (K : PySem.W.Frag) (mg : Str → Option Value) (x : Str) (c : TV) : Prop := ∃ u v, mg x = some u ∧ RelV v u ∧ Cst K c v
theorem gc_of {K : PySem.W.Frag} {h : Heap} {mg : Str → Option Value} {x : Str} {c : TV} (X : K.In h) (G : h.Ns mainGlobals mg) (e : gTV K x c = true) : GC K mg x c := by
  unfold gTV at e
  split at e
  · rename_i v q
    obtain ⟨y, r, hy⟩ := cst_of K c v e
    exact ⟨v, y, PySem.W.mg_of X G q, r, hy⟩
  · cases e
theorem Cst.int {K : PySem.W.Frag} {n : Int} {v : V} (h : Cst K (.i n) v) : v = .int n := by cases h; rfl
theorem Cst.str {K : PySem.W.Frag} {x : Str} {v : V} (h : Cst K (.s x) v) : v = .str x := by cases h; rfl
theorem Cst.tup {K : PySem.W.Frag} {l : List TV} {v : V} (h : Cst K (.t l) v) : ∃ a xs, v = .ref a ∧ (∀ H : Hp, SqT K H a xs) ∧ Paired (Cst K) l xs := by
  cases h with
  | t h1 h2 => exact ⟨_, _, rfl, h1, h2⟩
theorem csts_ints {K : PySem.W.Frag} : ∀ {l : List Int} {xs : List V}, Paired (Cst K) (l.map TV.i) xs → xs = l.map V.int
  | [], _, .nil => rfl
  | n :: r, _, .cons h t => by rw [Cst.int h, csts_ints t]; rfl
theorem csts_strs {K : PySem.W.Frag} : ∀ {l : List Str} {xs : List V}, Paired (Cst K) (l.map TV.s) xs → xs = l.map V.str
  | [], _, .nil => rfl
  | n :: r, _, .cons h t => by rw [Cst.str h, csts_strs t]; rfl
def tG (K : PySem.W.Frag) (c : TV) : TE := fun _ H Q => ∀ v, Cst K c v → Q v H
theorem pe_g {X : Cx} {x : Str} {c : TV} {pos : Pos} (hg : Gl X x) (hm : GC X.K X.mg x c) (hd : (x == ("__debug__" : Str)) = false := by decide) : PE X (.Name x pos) (tG X.K c) := by
  obtain ⟨u, v, e, r, hc⟩ := hm
  exact fun pins s σ H Q I h => ld_glob I hg e ⟨v, H, I, r, h v hc⟩ hd
theorem pe_gi {X : Cx} {x : Str} {n : Int} {pos : Pos} (hg : Gl X x) (hm : GC X.K X.mg x (.i n)) (hd : (x == ("__debug__" : Str)) = false := by decide) : PE X (.Name x pos) (tC (.int n)) := by
  obtain ⟨u, v, e, r, hc⟩ := hm
  cases hc.int
  exact pe_glob hg e r hd
end SB
end
section
set_option Elab.async false
set_option maxRecDepth 100000
set_option maxHeartbeats 4000000
set_option linter.all false
namespace SB
open PySem PySem.Spec PyProof.Rows L2 XL
theorem scal_ii {i j : Int} : scal (.int i) (.int j) = true := rfl
theorem scal_ss {i j : Str} : scal (.str i) (.str j) = true := rfl
theorem scal_bb {i j : Bool} : scal (.bl i) (.bl j) = true := rfl
theorem scal_ni {i : Int} : scal .non (.int i) = true := rfl
theorem scal_in {i : Int} : scal (.int i) .non = true := rfl
section
variable {CX : CXT} {P : Program} {w : World} {K : PySem.W.Frag} {mg : Str → Option Value} {base : Heap} {N : List Str} {qual : Str} {scope : Scope} {f : Addr} {cd : Value} {A : Around} {outer : List Env} {s : Shared} {H : Hp} {E : XK}
theorem cxK : (cxOf CX P w K mg base N qual scope f cd A outer s H E).K = K := rfl
theorem cxP : (cxOf CX P w K mg base N qual scope f cd A outer s H E).prog = P := rfl
theorem cxW : (cxOf CX P w K mg base N qual scope f cd A outer s H E).w = w := rfl
theorem cxMg : (cxOf CX P w K mg base N qual scope f cd A outer s H E).mg = mg := rfl
end
def tvs (l : List Int) : TV := .t (l.map TV.i)
def tvss (l : List Str) : TV := .t (l.map TV.s)
def tGix (l : List Int) (tb : TE) : TE := fun σ H Q => tb σ H fun y H1 => ∃ i r, y = .int i ∧ atI l i = some r ∧ Q (.int r) H1
def tGixS (l : List Str) (tb : TE) : TE := fun σ H Q => tb σ H fun y H1 => ∃ i r, y = .int i ∧ atI l i = some r ∧ Q (.str r) H1
def tGix2 (l : List (List Int)) (tb tc : TE) : TE := fun σ H Q => tb σ H fun y H1 => ∃ i m, y = .int i ∧ atI l i = some m ∧ tc σ H1 fun z H2 => ∃ j r, z = .int j ∧ atI m j = some r ∧ Q (.int r) H2
theorem atI_map {α β : Type} (g : α → β) (l : List α) (i : Int) : atI (l.map g) i = (atI l i).map g := by
  unfold atI
  rw [List.length_map]
  cases ixN l.length i with
  | none => rfl
  | some k => simp
theorem paired_atI {α β : Type} {G : α → β → Prop} {l : List α} {m : List β} (h : Paired G l m) {i : Int} {a : α} (e : atI l i = some a) : ∃ b, atI m i = some b ∧ G a b := by
  unfold atI at e ⊢
  rw [← Paired.length h]
  cases q : ixN l.length i with
  | none => rw [q] at e; cases e
  | some k =>
    rw [q] at e
    exact paired_get h e
def tMo (t : TE) : TE := fun σ H Q => ∃ Q' : VK, t σ H Q' ∧ ∀ v H1, Q' v H1 → Q v H1
theorem pe_mo {X : Cx} {e : Expr} {t : TE} (h : PE X e t) : PE X e (tMo t) := fun pins s σ H Q I ⟨Q', h1, h2⟩ => thn (h pins s σ H Q' I h1) fun _ _ ⟨v, H', I', r, q⟩ => ⟨v, H', I', r, h2 v H' q⟩
theorem pe_gix {X : Cx} {x : Str} {l : List Int} {b : Expr} {tb : TE} {p pos : Pos} (hg : Gl X x) (hm : GC X.K X.mg x (tvs l)) (hb : PE X b tb) (hs : PlainIx b) (hd : (x == ("__debug__" : Str)) = false := by decide) :
    PE X (.Subscript (.Name x p) b pos) (tGix l tb) := by
  obtain ⟨u, v, e, r, hc⟩ := hm
  obtain ⟨a, xs, rfl, hsq, hp⟩ := hc.tup
  have e2 := csts_ints hp
  subst e2
  intro pins s σ H Q I h
  exact pe_ix ix_tup (pe_glob hg e r hd) (pe_mo hb) hs pins s σ H Q I ⟨_, h, fun y H1 ⟨i, r, e1, e2, q⟩ => ⟨a, _, i, .int r, rfl, e1, hsq H1, by rw [atI_map, e2]; rfl, q⟩⟩
theorem pe_gixS {X : Cx} {x : Str} {l : List Str} {b : Expr} {tb : TE} {p pos : Pos} (hg : Gl X x) (hm : GC X.K X.mg x (tvss l)) (hb : PE X b tb) (hs : PlainIx b) (hd : (x == ("__debug__" : Str)) = false := by decide) :
    PE X (.Subscript (.Name x p) b pos) (tGixS l tb) := by
  obtain ⟨u, v, e, r, hc⟩ := hm
  obtain ⟨a, xs, rfl, hsq, hp⟩ := hc.tup
  have e2 := csts_strs hp
  subst e2
  intro pins s σ H Q I h
  exact pe_ix ix_tup (pe_glob hg e r hd) (pe_mo hb) hs pins s σ H Q I ⟨_, h, fun y H1 ⟨i, r, e1, e2, q⟩ => ⟨a, _, i, .str r, rfl, e1, hsq H1, by rw [atI_map, e2]; rfl, q⟩⟩
theorem pe_gix2 {X : Cx} {x : Str} {l : List (List Int)} {b c : Expr} {tb tc : TE} {p pos pos' : Pos} (hg : Gl X x) (hm : GC X.K X.mg x (.t (l.map tvs))) (hb : PE X b tb) (hs : PlainIx b) (hc : PE X c tc) (hs' : PlainIx c) (hd : (x == ("__debug__" : Str)) = false := by decide) :
    PE X (.Subscript (.Subscript (.Name x p) b pos) c pos') (tGix2 l tb tc) := by
  obtain ⟨u, v, e, r, hcc⟩ := hm
  obtain ⟨a, xs, rfl, hsq, hp⟩ := hcc.tup
  intro pins s σ H Q I h
  refine pe_ix ix_tup (pe_ix ix_tup (pe_glob hg e r hd) (pe_mo hb) hs) (pe_mo hc) hs' pins s σ H Q I ⟨_, h, fun y H1 ⟨i, m, e1, e2, q⟩ => ?_⟩
  obtain ⟨z, hz, hcz⟩ := paired_atI hp (i := i) (a := tvs m) (by rw [atI_map, e2]; rfl)
  obtain ⟨a2, ys, rfl, hsq2, hp2⟩ := hcz.tup
  have e3 := csts_ints hp2
  subst e3
  exact ⟨a, _, i, .ref a2, rfl, e1, hsq H1, hz, _, q, fun y2 H2 ⟨j, r, e4, e5, q2⟩ => ⟨a2, _, j, .int r, rfl, e4, hsq2 H2, by rw [atI_map, e5]; rfl, q2⟩⟩
def ONEK : List Int := [7, 3, 9, 9, 9, 9, 9, 9]
def TWOK : List Int := [5, 5, 6, 6, 6, 6, 8, 4, 4, 4, 4, 4, 4]
def PLACEL : List (List Int) := [[0, 0, 0], [1, 2], [2, 3], [3], [5, 5], [5, 6], [6, 7], [7], [9, 7]]
def AROUNDL : List (List Int) := [[1, 1, 1], [0, 0], [0, 0], [1], [0, 0], [0, 0], [0, 0], [1], [0, 1]]
structure CN (K : PySem.W.Frag) (mg : Str → Option Value) : Prop where
  ONE : GC K mg "ONE" (.i 2)
  TWO : GC K mg "TWO" (.i 3)
  AND : GC K mg "AND" (.i 4)
  OR : GC K mg "OR" (.i 5)
  IF : GC K mg "IF" (.i 6)
  STR : GC K mg "STRONGEST" (.i 9)
  OK_ : GC K mg "ONE_KINDS" (tvs ONEK)
  TK_ : GC K mg "TWO_KINDS" (tvs TWOK)
  PL : GC K mg "PLACES" (.t (PLACEL.map tvs))
  AR : GC K mg "AROUND" (.t (AROUNDL.map tvs))
inductive KindR : Int → V → Int → Prop
  | one {i r : Int} : atI ONEK i = some r → KindR 2 (.int i) r
  | two {i r : Int} : atI TWOK i = some r → KindR 3 (.int i) r
  | if_ {v : V} : KindR 6 v 0
  | or_ {v : V} : KindR 5 v 1
  | and_ {v : V} : KindR 4 v 2
  | else_ {f : Int} {v : V} : f ≠ 2 → f ≠ 3 → f ≠ 4 → f ≠ 5 → f ≠ 6 → KindR f v 9
def spKind : Sp := fun vs H Q _ => ∃ f v r, vs = [.int f, v] ∧ KindR f v r ∧ Q (.int r) H
def TabR (l : List (List Int)) (c : Int) (k p r : Int) : Prop := (k = 9 ∧ r = c) ∨ (k ≠ 9 ∧ ∃ m, atI l k = some m ∧ atI m p = some r)
def spTab (l : List (List Int)) (c : Int) : Sp := fun vs H Q _ => ∃ k p r, vs = [.int k, .int p] ∧ TabR l c k p r ∧ Q (.int r) H
abbrev sKind : Stmt := top 21
abbrev sPlace : Stmt := top 22
abbrev sAround : Stmt := top 23
section
variable {P : Program} {w : World} {K : PySem.W.Frag} {mg : Str → Option Value} {base : Heap}
theorem scKind : FnScope ["form", "detail"] ["form", "detail"] (defScope sKind) := ⟨rfl, rfl, rfl, by decide +kernel, rfl, by decide +kernel, by decide +kernel⟩
theorem ok_kind {f : Addr} {fd : FuncData} (F : Fn K mg "kind_of" sKind f fd ["form", "detail"]) (T : CN K mg) : FnOk P w K mg base (CXr P w) 1 f fd ["form", "detail"] spKind := by
  refine okX F.F scKind (fun vs H Q E h => ?_) (fun cdv A outer s H vs Q E hr h => ?_)
  · obtain ⟨_, _, _, rfl, _⟩ := h
    rfl
  · obtain ⟨fo, v, r, rfl, hk, k⟩ := h
    refine ⟨_, pss_cons (ps_if (pt_cmpR op_eq (pv 0) (pe_gi rfl T.ONE) (nomark _)) (pss_one (ps_ret (pe_gix rfl T.OK_ (pv 1) (fun _ _ => rfl)))) pss_nil)
      (pss_cons (ps_if (pt_cmpR op_eq (pv 0) (pe_gi rfl T.TWO) (nomark _)) (pss_one (ps_ret (pe_gix rfl T.TK_ (pv 1) (fun _ _ => rfl)))) pss_nil)
      (pss_cons (ps_if (pt_cmpR op_eq (pv 0) (pe_gi rfl T.IF) (nomark _)) (pss_one (ps_ret pe_int)) pss_nil)
      (pss_cons (ps_if (pt_cmpR op_eq (pv 0) (pe_gi rfl T.OR) (nomark _)) (pss_one (ps_ret pe_int)) pss_nil)
      (pss_cons (ps_if (pt_cmpR op_eq (pv 0) (pe_gi rfl T.AND) (nomark _)) (pss_one (ps_ret pe_int)) pss_nil)
      (pss_one (ps_ret (pe_gi rfl T.STR))))))), ?_⟩
    simp only [L2.start, tSeq, tIfS, tTest, tOp, tVar, tC, tRet, tRetN, tNext, tDrop, rEq, rNe, rI0, rI, scal_ii, scal_ss, scal_bb, scal_ni, scal_in, V.int.injEq, V.str.injEq, V.bl.injEq, V.ref.injEq, true_and, and_true, Option.some.injEq, exists_eq_left', exists_eq_left, exists_eq_right, exists_and_left, List.map_cons, List.map_nil, List.length_cons, List.length_nil, List.cons_append, List.nil_append, List.getElem?_cons_zero, List.getElem?_cons_succ, decide_eq_true_eq, Bool.not_eq_true', decide_eq_false_iff_not, List.replicate_zero, List.replicate_succ, Nat.reduceSub, Nat.sub_self, Nat.reduceAdd, Nat.zero_add, cxK, cxP, cxW, cxMg, tCall, tCons, tNil, tAsg, gName, List.set_cons_zero, List.set_cons_succ, tAnd, tOr, tNot, tIf, tNotV, tAndV, tOrV, tGix, tGix2, tGixS, tCB, List.append_nil, tMeth, tFld, rIxL, rIxT, tIsN, List.append_assoc]
    cases hk with
    | one e => exact ⟨_, rfl, _, e, k⟩
    | two e => exact ⟨_, rfl, _, e, k⟩
    | if_ => exact k
    | or_ => exact k
    | and_ => exact k
    | else_ a b c d e =>
      rw [if_neg a, if_neg b, if_neg e, if_neg d, if_neg c]
      exact k
theorem scPlace : FnScope ["kind", "position"] ["kind", "position"] (defScope sPlace) := ⟨rfl, rfl, rfl, by decide +kernel, rfl, by decide +kernel, by decide +kernel⟩
theorem ok_place {f : Addr} {fd : FuncData} (F : Fn K mg "place_of" sPlace f fd ["kind", "position"]) (T : CN K mg) : FnOk P w K mg base (CXr P w) 1 f fd ["kind", "position"] (spTab PLACEL 0) := by
  refine okX F.F scPlace (fun vs H Q E h => ?_) (fun cdv A outer s H vs Q E hr h => ?_)
  · obtain ⟨_, _, _, rfl, _⟩ := h
    rfl
  · obtain ⟨kd, p, r, rfl, hk, k⟩ := h
    refine ⟨_, pss_cons (ps_if (pt_cmpR op_eq (pv 0) (pe_gi rfl T.STR) (nomark _)) (pss_one (ps_ret pe_int)) pss_nil)
      (pss_one (ps_ret (pe_gix2 rfl T.PL (pv 0) (fun _ _ => rfl) (pv 1) (fun _ _ => rfl)))), ?_⟩
    simp only [L2.start, tSeq, tIfS, tTest, tOp, tVar, tC, tRet, tRetN, tNext, tDrop, rEq, rNe, rI0, rI, scal_ii, scal_ss, scal_bb, scal_ni, scal_in, V.int.injEq, V.str.injEq, V.bl.injEq, V.ref.injEq, true_and, and_true, Option.some.injEq, exists_eq_left', exists_eq_left, exists_eq_right, exists_and_left, List.map_cons, List.map_nil, List.length_cons, List.length_nil, List.cons_append, List.nil_append, List.getElem?_cons_zero, List.getElem?_cons_succ, decide_eq_true_eq, Bool.not_eq_true', decide_eq_false_iff_not, List.replicate_zero, List.replicate_succ, Nat.reduceSub, Nat.sub_self, Nat.reduceAdd, Nat.zero_add, cxK, cxP, cxW, cxMg, tCall, tCons, tNil, tAsg, gName, List.set_cons_zero, List.set_cons_succ, tAnd, tOr, tNot, tIf, tNotV, tAndV, tOrV, tGix, tGix2, tGixS, tCB, List.append_nil, tMeth, tFld, rIxL, rIxT, tIsN, List.append_assoc]
    rcases hk with ⟨rfl, rfl⟩ | ⟨a, m, e1, e2⟩
    · exact k
    · rw [if_neg a]
      exact ⟨m, e1, r, e2, k⟩
theorem scAround : FnScope ["kind", "position"] ["kind", "position"] (defScope sAround) := ⟨rfl, rfl, rfl, by decide +kernel, rfl, by decide +kernel, by decide +kernel⟩
theorem ok_around {f : Addr} {fd : FuncData} (F : Fn K mg "around_of" sAround f fd ["kind", "position"]) (T : CN K mg) : FnOk P w K mg base (CXr P w) 1 f fd ["kind", "position"] (spTab AROUNDL 1) := by
  refine okX F.F scAround (fun vs H Q E h => ?_) (fun cdv A outer s H vs Q E hr h => ?_)
  · obtain ⟨_, _, _, rfl, _⟩ := h
    rfl
  · obtain ⟨kd, p, r, rfl, hk, k⟩ := h
    refine ⟨_, pss_cons (ps_if (pt_cmpR op_eq (pv 0) (pe_gi rfl T.STR) (nomark _)) (pss_one (ps_ret pe_int)) pss_nil)
      (pss_one (ps_ret (pe_gix2 rfl T.AR (pv 0) (fun _ _ => rfl) (pv 1) (fun _ _ => rfl)))), ?_⟩
    simp only [L2.start, tSeq, tIfS, tTest, tOp, tVar, tC, tRet, tRetN, tNext, tDrop, rEq, rNe, rI0, rI, scal_ii, scal_ss, scal_bb, scal_ni, scal_in, V.int.injEq, V.str.injEq, V.bl.injEq, V.ref.injEq, true_and, and_true, Option.some.injEq, exists_eq_left', exists_eq_left, exists_eq_right, exists_and_left, List.map_cons, List.map_nil, List.length_cons, List.length_nil, List.cons_append, List.nil_append, List.getElem?_cons_zero, List.getElem?_cons_succ, decide_eq_true_eq, Bool.not_eq_true', decide_eq_false_iff_not, List.replicate_zero, List.replicate_succ, Nat.reduceSub, Nat.sub_self, Nat.reduceAdd, Nat.zero_add, cxK, cxP, cxW, cxMg, tCall, tCons, tNil, tAsg, gName, List.set_cons_zero, List.set_cons_succ, tAnd, tOr, tNot, tIf, tNotV, tAndV, tOrV, tGix, tGix2, tGixS, tCB, List.append_nil, tMeth, tFld, rIxL, rIxT, tIsN, List.append_assoc]
    rcases hk with ⟨rfl, rfl⟩ | ⟨a, m, e1, e2⟩
    · exact k
    · rw [if_neg a]
      exact ⟨m, e1, r, e2, k⟩
end
end SB
end
section
set_option Elab.async false
set_option maxRecDepth 100000
set_option maxHeartbeats 4000000
set_option linter.all false
namespace SB
open PySem PySem.Spec PyProof.Rows L2 XL
theorem pown {CX : CXT} {P : Program} {w : World} {K : PySem.W.Frag} {mg : Str → Option Value} {base : Heap} {N : List Str} {qual : Str} {scope : Scope} {f : Addr} {cd : Value} {A : Around} {outer : List Env} {s : Shared} {H : Hp} {E : XK} :
    PassesOwn (model (cxOf CX P w K mg base N qual scope f cd A outer s H E).prog (cxOf CX P w K mg base N qual scope f cd A outer s H E).w) (cxOf CX P w K mg base N qual scope f cd A outer s H E).A (cxOf CX P w K mg base N qual scope f cd A outer s H E).env (cxOf CX P w K mg base N qual scope f cd A outer s H E).xe := PassesOwn.leaving
def spGcd : Sp := fun vs H Q _ => ∃ a b : Nat, vs = [.int a, .int b] ∧ Q (.int (Nat.gcd a b)) H
abbrev sGcd : Stmt := top 39
abbrev sPair : Stmt := top 40
section
variable {P : Program} {w : World} {K : PySem.W.Frag} {mg : Str → Option Value} {base : Heap}
theorem scGcd : FnScope ["a", "b", "rest"] ["a", "b"] (defScope sGcd) := ⟨rfl, rfl, rfl, by decide +kernel, rfl, by decide +kernel, by decide +kernel⟩
theorem ok_gcd {f : Addr} {fd : FuncData} (F : Fn K mg "common_divisor" sGcd f fd ["a", "b"]) : FnOk P w K mg base (CXr P w) 1 f fd ["a", "b"] spGcd := by
  refine okX F.F scGcd (fun vs H Q E h => ?_) (fun cdv A outer s H vs Q E hr h => ?_)
  · obtain ⟨_, _, rfl, _⟩ := h
    rfl
  · obtain ⟨a, b, rfl, k⟩ := h
    refine ⟨_, pss_cons (ps_while pown (pt_cmpR op_ne (pv 1) pe_int (nomark _))
        (pss_cons (ps_set (i := 2) scGcd.nd rfl (Or.inl rfl) (pe_op op_mod (pv 0) (pv 1)))
        (pss_cons (ps_set (i := 0) scGcd.nd rfl (Or.inl rfl) (pv 1))
        (pss_one (ps_set (i := 1) scGcd.nd rfl (Or.inl rfl) (pv 2))))))
      (pss_one (ps_ret (pv 0))), ?_⟩
    refine ⟨fun m σ H' => ∃ (x y : Nat) (v : Option V), σ = [some (.int x), some (.int y), v] ∧ m = y ∧ Nat.gcd x y = Nat.gcd a b ∧ H' = H, ⟨b, a, b, none, rfl, rfl, rfl, rfl⟩, ?_⟩
    rintro y σ H' ⟨x, _, v, rfl, rfl, hg, rfl⟩
    simp only [L2.start, tSeq, tIfS, tTest, tOp, tVar, tC, tRet, tRetN, tNext, tDrop, rEq, rNe, rI0, rI, scal_ii, scal_ss, scal_bb, scal_ni, scal_in, V.int.injEq, V.str.injEq, V.bl.injEq, V.ref.injEq, true_and, and_true, Option.some.injEq, exists_eq_left', exists_eq_left, exists_eq_right, exists_and_left, List.map_cons, List.map_nil, List.length_cons, List.length_nil, List.cons_append, List.nil_append, List.getElem?_cons_zero, List.getElem?_cons_succ, decide_eq_true_eq, Bool.not_eq_true', decide_eq_false_iff_not, List.replicate_zero, List.replicate_succ, Nat.reduceSub, Nat.sub_self, Nat.reduceAdd, Nat.zero_add, cxK, cxP, cxW, cxMg, tCall, tCons, tNil, tAsg, gName, List.set_cons_zero, List.set_cons_succ, tAnd, tOr, tNot, tIf, tNotV, tAndV, tOrV, tGix, tGix2, tGixS, tCB, List.append_nil, tMeth, tFld, rIxL, rIxT, tIsN, List.append_assoc]
    by_cases hy : y = 0
    · subst hy
      simp at hg ⊢
      rw [hg]
      exact k
    · have hy' : ¬ ((y : Int) = 0) := by omega
      rw [if_pos (by simpa using hy')]
      refine ⟨fun σ' H'' => ∃ (x' y' : Nat) (v : Option V), σ' = [some (.int x'), some (.int y'), v] ∧ y' < y ∧ Nat.gcd x' y' = Nat.gcd a b ∧ H'' = H', fun σ' H'' ⟨x', y', v, e1, e2, e3, e4⟩ => ⟨y', e2, x', y', v, e1, rfl, e3, e4⟩, ?_⟩
      refine ⟨by omega, y, x % y, _, rfl, Nat.mod_lt _ (by omega), ?_, rfl⟩
      rw [← hg, Nat.gcd_comm x y, Nat.gcd_rec y x, Nat.gcd_comm]
def pairB (n d : Int) : Bool := decide (0 ≤ n ∧ 1 ≤ d ∧ n ≤ 1000000000000000000 ∧ d ≤ 1000000000000000000) && (Nat.gcd n.toNat d.toNat == 1)
def spPair : Sp := fun vs H Q _ => ∃ n d : Int, vs = [.int n, .int d] ∧ Q (.bl (pairB n d)) H
theorem scPair : FnScope ["numerator", "denominator"] ["numerator", "denominator"] (defScope sPair) := ⟨rfl, rfl, rfl, by decide +kernel, rfl, by decide +kernel, by decide +kernel⟩
theorem ok_pair {f fG : Addr} {fd fdG : FuncData} (F : Fn K mg "is_right_pair" sPair f fd ["numerator", "denominator"]) (L : GC K mg "LARGEST" (.i 1000000000000000000)) (FG : Fn K mg "common_divisor" sGcd fG fdG ["a", "b"]) : FnOk P w K mg base (CXr P w) 2 f fd ["numerator", "denominator"] spPair := by
  have GG : FnOk P w K mg base (CXr P w) 1 fG fdG ["a", "b"] spGcd := ok_gcd FG
  refine okX F.F scPair (fun vs H Q E h => ?_) (fun cdv A outer s H vs Q E hr h => ?_)
  · obtain ⟨_, _, rfl, _⟩ := h
    rfl
  · obtain ⟨n, d, rfl, k⟩ := h
    refine ⟨_, pss_cons (ps_if (PW.pt (pw_or (pt_cmpR op_lt (pv 0) pe_int (nomark _)) (pw_or (pt_cmpR op_lt (pv 1) pe_int (nomark _)) (pw_or (pt_cmpR op_gt (pv 0) (pe_gi rfl L) (nomark _)) (pw_or1 (pt_cmpR op_gt (pv 1) (pe_gi rfl L) (nomark _)))))))
        (pss_one (ps_ret pe_bl)) pss_nil)
      (pss_one (ps_ret (pe_cmpR op_eq (pe_call GG hr rfl FG.m FG.F.kp FG.b .nil passes (pa_cons (pv 0) (pa_cons (pv 1) pa_nil))) pe_int (nomark _)))), ?_⟩
    simp only [L2.start, tSeq, tIfS, tTest, tOp, tVar, tC, tRet, tRetN, tNext, tDrop, rEq, rNe, rI0, rI, scal_ii, scal_ss, scal_bb, scal_ni, scal_in, V.int.injEq, V.str.injEq, V.bl.injEq, V.ref.injEq, true_and, and_true, Option.some.injEq, exists_eq_left', exists_eq_left, exists_eq_right, exists_and_left, List.map_cons, List.map_nil, List.length_cons, List.length_nil, List.cons_append, List.nil_append, List.getElem?_cons_zero, List.getElem?_cons_succ, decide_eq_true_eq, Bool.not_eq_true', decide_eq_false_iff_not, List.replicate_zero, List.replicate_succ, Nat.reduceSub, Nat.sub_self, Nat.reduceAdd, Nat.zero_add, cxK, cxP, cxW, cxMg, tCall, tCons, tNil, tAsg, gName, List.set_cons_zero, List.set_cons_succ, tAnd, tOr, tNot, tIf, tNotV, tAndV, tOrV, tGix, tGix2, tGixS, tCB, List.append_nil, tMeth, tFld, rIxL, rIxT, tIsN, List.append_assoc]
    have hf : ¬ (0 ≤ n ∧ 1 ≤ d ∧ n ≤ 1000000000000000000 ∧ d ≤ 1000000000000000000) → pairB n d = false := fun h => by unfold pairB; rw [decide_eq_false h]; rfl
    refine ite2 (fun h => ?_) fun h1 => ?_
    · rw [hf (by omega)] at k
      exact k
    refine ite2 (fun h => ?_) fun h2 => ?_
    · rw [hf (by omega)] at k
      exact k
    refine ite2 (fun h => ?_) fun h3 => ?_
    · rw [hf (by omega)] at k
      exact k
    refine ite2 (fun h => ?_) fun h4 => ?_
    · rw [hf (by omega)] at k
      exact k
    refine ⟨n.toNat, d.toNat, by rw [Int.toNat_of_nonneg (by omega), Int.toNat_of_nonneg (by omega)], rfl, ?_⟩
    have e : pairB n d = decide (((Nat.gcd n.toNat d.toNat : Nat) : Int) = 1) := by
      unfold pairB
      rw [decide_eq_true (by omega), Bool.true_and, Bool.eq_iff_iff, beq_iff_eq, decide_eq_true_eq]
      omega
    simp only [V.int.injEq]
    rw [← e]
    exact k
end
end SB
end
section
set_option Elab.async false
set_option maxRecDepth 100000
set_option maxHeartbeats 4000000
set_option linter.all false
namespace SB
open PySem PySem.Spec PyProof.Rows L2 XL
structure KDict (K : PySem.W.Frag) (w : World) (d : Addr) (kvs : List (Key × V)) : Prop where
  ns : (d == sysModules) = false
  ex : ∀ P : Program, ∃ (o : Obj) (es : Array DictEntry) (ep : Nat) (vs : List (Key × Value)), K.lookup d = some o ∧ o.ExactDict ∧ o.data = .dict es ep ∧ es.size = kvs.length ∧ KV kvs vs ∧ KeysOf (mixKind P w) es ∧ Pairs (mixKind P w) es.toList vs ∧ (vs.map (·.1)).Nodup
theorem KDict.at_ {X : Cx} {pins : List (Addr × Obj)} {σ : L2.St} {H : Hp} {s : Shared} {d : Addr} {kvs : List (Key × V)} (D : KDict X.K X.w d kvs) (I : Inv X pins σ H s) :
    ∃ (o : Obj) (es : Array DictEntry) (ep : Nat) (vs : List (Key × Value)), X.K.lookup d = some o ∧ s.heap.get? d = some o ∧ o.data = .dict es ep ∧ es.size = kvs.length ∧ KV kvs vs ∧ s.heap.DictAt (mixKind X.prog X.w) d vs ep := by
  obtain ⟨o, es, ep, vs, h1, h2, h3, h4, h5, h6⟩ := D.ex X.prog
  exact ⟨o, es, ep, vs, h1, I.kIn _ _ h1, h3, h4, h5, o, es, I.kIn _ _ h1, h2, h3, h6⟩
def Itq (kvs : List (Key × V)) : It :=
  ⟨fun i H => i < kvs.length, fun i H x H' => ∃ T k v, kvs[i]? = some (k, v) ∧ x = .ref T ∧ H T = none ∧ H' = upd H T (.tup [kV k, v]), fun i H => kvs.length ≤ i⟩
theorem turn_itq {P : Program} {w : World} {K : PySem.W.Frag} {d : Addr} {o : Obj} {es : Array DictEntry} {ep : Nat} {kvs : List (Key × V)} {elts : List Expr} {kk : Nat} {tpos : Pos} (it : Addr) (KD : KDict K w d kvs) (lk : K.lookup d = some o) (hod : o.data = .dict es ep) :
    Turn P w K (.Tuple elts kk tpos) (Itq kvs) [it] it (fun i h => ∃ ok ov, IsItemIter h it d i kvs.length ep ok ov) where
  mem := by simp
  obj := fun i h st b hb => by
    have e : b = it := by simpa using hb
    subst e
    obtain ⟨ok, ov, e⟩ := st
    exact ⟨_, e, fun v z => nomatch z⟩
  keep := fun i h h' st k => let ⟨ok, ov, e⟩ := st; ⟨ok, ov, k it (by simp) _ e⟩
  item := by
    intro X hP hw hK hc i pins s σ H E I hf st hg
    subst hP hw hK
    have hi : i < kvs.length := hg
    obtain ⟨o', es', ep', vs, lk', hgd, hdt, hsz, kv, hm⟩ := KD.at_ I
    rw [lk] at lk'
    cases lk'
    obtain ⟨rfl, rfl⟩ := dict_ep hod hdt
    obtain ⟨⟨k, v⟩, hkv⟩ : ∃ p, kvs[i]? = some p := ⟨kvs[i], List.getElem?_eq_getElem hi⟩
    obtain ⟨u, hu, ru⟩ := kv_get kv hkv
    have hl : kvs.length = vs.length := Paired.length kv
    obtain ⟨ok, ov, he⟩ := st
    rw [hl] at he
    have hlt : it < s.heap.objs.size := Heap.lt_size he
    refine wpAny_pyNext_items_item he hm hu fun key h' hkey ho hT hz hk => ?_
    refine ⟨_, rfl, wpAny_letOwnedTupleGo_items (s := { s with heap := h' }) ho fun h'' he' sb => ?_⟩
    have hT2 : h''.get? s.heap.objs.size = some { cls := .type "tuple", data := .seq #[key, u] } := (sb.2 _ (Nat.ne_of_gt hlt)).trans hT
    have new : ObjOk X.prog X.w (upd H s.heap.objs.size (.tup [kV k, v])) h'' s.heap.objs.size (.tup [kV k, v]) :=
      ⟨by show 2 ≤ sizeLine; decide, [key, u], .cons (relV_key (show keyIs k key = true from hkey)) (.cons ru .nil), ⟨_, hT2, rfl, _, rfl⟩⟩
    have I1 : Inv X pins σ (upd H s.heap.objs.size (.tup [kV k, v])) { s with heap := h'' } :=
      I.turnedNew (t' := s.toks) (ch := [it]) (fun b ob hb e => (sb.2 b (by simpa using hb)).trans (hk b ob (by simpa using hb) e)) hf (Nat.le_refl _) new
    refine ⟨.ref s.heap.objs.size, _, I1, rfl, ⟨_, k, v, hkv, rfl, I.hok.fresh (Nat.le_refl _), rfl⟩, ⟨key, u, ?_⟩, fun b hb => ?_⟩
    · rw [hl]; exact he'
    · have e : b = it := by simpa using hb
      rw [e, upd_ne (Nat.ne_of_lt hlt)]
      exact (hf it (by simp)).1
  done := by
    intro X hP hw hK hc i pins s σ H E I hf st hg
    subst hP hw hK
    have hi : kvs.length ≤ i := hg
    obtain ⟨f0, f1, f2, f3, f4, f5⟩ := hf it (by simp)
    obtain ⟨o', es', ep', vs, lk', hgd, hdt, hsz, kv, hm⟩ := KD.at_ I
    rw [lk] at lk'
    cases lk'
    obtain ⟨rfl, rfl⟩ := dict_ep hod hdt
    have hl : kvs.length = vs.length := Paired.length kv
    obtain ⟨ok, ov, he⟩ := st
    rw [hl] at he
    exact wpAny_pyNext_items_end (I.ok.hd hc) he hm (List.getElem?_eq_none (by omega)) fun h' eb => ⟨rfl, I.turned (t' := s.toks) (fun b ob hb e => eb b ob hb e) f0 f1 f3 f4 f5⟩
  self := fun A i s Q E st h => let ⟨_, _, e⟩ := st; PySem.W.kcp_self e h
theorem pi_itq {X : Cx} {x : Str} {d : Addr} {kvs : List (Key × V)} {p apos cpos : Pos} {elts : List Expr} {kk : Nat} {tpos : Pos} (hg : Gl X x) (hm : X.mg x = some (.ref d)) (KD : KDict X.K X.w d kvs) (hd : (x == ("__debug__" : Str)) = false := by decide)
    (hbase : attributeBase (.Name x p) "items" X.env (eval (.Name x p) X.env) = eval (.Name x p) X.env := by rfl) (hline : (apos.endLine == cpos.line) = true := by rfl) :
    PI X (.Tuple elts kk tpos) (.Call (.Attribute (.Name x p) "items" apos) [] [] cpos) (fun σ H R => R (Itq kvs) H) := by
  intro pins s σ H R I h
  refine wpAny_Call_method (T := "dict") (id := "dict.items") hbase rfl hline F.plainAttrs_dict F.slot_dict_items F.type_dict_items (ld_glob I hg hm ?_ hd)
  obtain ⟨o, es, ep, vs, lk, hgd, hdt, hsz, kv, hm2⟩ := KD.at_ I
  have hl : kvs.length = vs.length := Paired.length kv
  refine ⟨hm2.dictOf.typeIs, hm2.dictOf.mapOf.noDict, ?_⟩
  have I2 : Inv X pins σ H { s with heap := s.heap.push { cls := .type "dict_items", data := .fields #[.ref d] } } := I.kept (t' := s.toks) fun b ob q => Heap.get?_push_of_some _ q
  have fin : wpAny (model X.prog X.w) X.A (pyIter (.ref s.heap.objs.size)) (PIE X pins σ (.Tuple elts kk tpos) R) X.xe { s with heap := s.heap.push { cls := .type "dict_items", data := .fields #[.ref d] } } := by
    refine wpAny_pyIter_items (d := d) (knd := mixKind X.prog X.w) ⟨_, Heap.get?_push_size _ rfl, rfl, rfl⟩ (hm2.push _) (pi_one (tk := s.toks) I2 _ (turn_itq _ KD lk hdt) ⟨.none, .none, ?_⟩ h)
    rw [hl]
    exact Heap.get?_push_size _ rfl
  show wpAny _ _ (callWith cpos (.builtin "dict.items") [.ref d] [] []) _ X.xe s
  exact method_meetsIn F.slot_dict_items F.entry_dict_items rfl (PySem.evalArgs_none ⟨rfl, hm2.dictOf.typeIs, F.args_dict_items_1 _, _, meets_dict_items (mixKind X.prog X.w) d KD.ns, ⟨vs, hm2.dictOf⟩, fin⟩)
theorem for_itq {kvs : List (Key × V)} {g : TG} {tb : TS} {D : Ends} {σ : L2.St} {H : Hp} (Pv : Nat → L2.St → Hp → Prop) (h0 : Pv 0 σ H)
    (hs : ∀ i k v σ H T, kvs[i]? = some (k, v) → Pv i σ H → H T = none → g (.ref T) σ (upd H T (.tup [kV k, v])) fun σ2 H2 => tb { D with nx := Pv (i + 1), ct := Pv (i + 1), bk := D.nx } σ2 H2) (hd : ∀ σ H, Pv kvs.length σ H → D.nx σ H) :
    ∃ W : Nat → Nat → L2.St → Hp → Prop, (∃ m, W 0 m σ H) ∧ ∀ i m σ H, W i m σ H →
      ((Itq kvs).stop i H ∧ D.nx σ H) ∨ ((Itq kvs).go i H ∧ ∃ N : L2.St → Hp → Prop, (∀ σ' H', N σ' H' → ∃ m', m' < m ∧ W (i + 1) m' σ' H') ∧ ∀ x H', (Itq kvs).yld i H x H' → g x σ H' fun σ2 H2 => tb { D with nx := N, ct := N, bk := D.nx } σ2 H2) := by
  refine ⟨fun i m σ H => m = kvs.length - i ∧ i ≤ kvs.length ∧ Pv i σ H, ⟨kvs.length, by simp, Nat.zero_le _, h0⟩, ?_⟩
  rintro i m σ H ⟨rfl, hi, p⟩
  by_cases hlt : i < kvs.length
  · refine .inr ⟨hlt, Pv (i + 1), fun σ' H' p' => ⟨kvs.length - (i + 1), by omega, rfl, hlt, p'⟩, fun x H' y => ?_⟩
    obtain ⟨T, k, v, e, rfl, hT, rfl⟩ := y
    exact hs i k v σ H T e p hT
  · have e : i = kvs.length := by omega
    subst e
    exact .inl ⟨Nat.le_refl _, hd σ H p⟩
end SB
end
section
set_option Elab.async false
set_option maxRecDepth 100000
set_option maxHeartbeats 4000000
set_option linter.all false
namespace SB
open PySem PySem.Spec PyProof.Rows L2 XL
def ALONE : List (Str × Int) := [("clock", 0), ("living", 1), ("me", 192), ("priority", 193), ("elapsed", 194), ("age", 195), ("family", 196)]
def ROWS : List (Str × Str × Int × Int) := [("p", "", 64, 16), ("v", "", 128, 64), ("f", ".free", 256, 64), ("f", ".holder", 320, 64), ("s", ".used", 384, 64), ("s", ".left", 448, 64), ("s", ".open", 512, 64), ("q", ".content", 576, 64), ("c", ".length", 640, 64), ("k", "", 704, 64), ("f", ".open", 832, 64), ("f", ".displaced", 896, 64)]
def rowTV (r : Str × Str × Int × Int) : TV := .t [.s r.1, .s r.2.1, .i r.2.2.1, .i r.2.2.2]
def aloneKV : List (Key × V) := ALONE.map fun p => (Sum.inr p.1, V.int p.2)
def strI (i : Int) : Str := Str.ofString (toString i)
def rowHas (n : Int) (r : Str × Str × Int × Int) : Bool := decide (r.2.2.1 ≤ n) && decide (n < r.2.2.1 + r.2.2.2)
def nameRead (n : Int) : Str := match ALONE.find? fun p => decide (p.2 = n) with
  | some p => p.1
  | none => match ROWS.find? (rowHas n) with
    | some r => r.1 ++ strI (n - r.2.2.1) ++ r.2.1
    | none => ""
structure CM (K : PySem.W.Frag) (w : World) (mg : Str → Option Value) : Prop where
  RA : ∃ d, mg "READ_ALONE" = some (.ref d) ∧ KDict K w d aloneKV
  RR : GC K mg "READ_ROWS" (.t (ROWS.map rowTV))
  str : mg "str" = none
def spName : Sp := fun vs H Q _ => ∃ n : Int, vs = [.int n] ∧ ∀ H', Same H H' → Q (.str (nameRead n)) H'
abbrev sName : Stmt := top 36
theorem len_strI {i : Int} (h0 : 0 ≤ i) (h1 : i < 100) : (strI i).length ≤ 2 := by
  obtain ⟨n, rfl⟩ : ∃ n : Nat, i = n := ⟨i.toNat, by omega⟩
  unfold strI
  have e := TL.tl_num n
  rw [TL.len_tl, e]
  exact TL.numL_len (by decide) (by omega)
theorem Same.upd {H : Hp} {T : Addr} {o : HO} (h : H T = none) : Same H (L2.upd H T o) := fun b u e => by
  rw [upd_ne (ne_of_none e h)]
  exact e
theorem find_none_take {α : Type} {p : α → Bool} : ∀ {l : List α} {i : Nat} {x : α}, l[i]? = some x → (l.take i).find? p = none → p x = false → (l.take (i + 1)).find? p = none
  | [], i, x, h, _, _ => by simp at h
  | a :: l, 0, x, h, _, hx => by
    cases h
    simp [hx]
  | a :: l, i + 1, x, h, hn, hx => by
    rw [List.take_succ_cons, List.find?_cons] at hn ⊢
    cases q : p a with
    | true => rw [q] at hn; cases hn
    | false =>
      rw [q] at hn
      simp only [q]
      exact find_none_take (l := l) h hn hx
theorem find_some_take {α : Type} {p : α → Bool} : ∀ {l : List α} {i : Nat} {x : α}, l[i]? = some x → (l.take i).find? p = none → p x = true → l.find? p = some x
  | [], i, x, h, _, _ => by simp at h
  | a :: l, 0, x, h, _, hx => by
    cases h
    simp [hx]
  | a :: l, i + 1, x, h, hn, hx => by
    rw [List.take_succ_cons, List.find?_cons] at hn
    rw [List.find?_cons]
    cases q : p a with
    | true => rw [q] at hn; cases hn
    | false =>
      rw [q] at hn
      exact find_some_take (l := l) h hn hx
section
variable {P : Program} {w : World} {K : PySem.W.Frag} {mg : Str → Option Value} {base : Heap}
theorem scName : FnScope ["number", "name", "known", "head", "tail", "first", "count"] ["number"] (defScope sName) := ⟨rfl, rfl, rfl, by decide +kernel, rfl, by decide +kernel, by decide +kernel⟩
theorem ok_name {f : Addr} {fd : FuncData} (F : Fn K mg "name_of_read" sName f fd ["number"]) (T : CM K w mg) : FnOk P w K mg base (CXr P w) 1 f fd ["number"] spName := by
  obtain ⟨d, hd, KD⟩ := T.RA
  obtain ⟨ur, vr, hr1, rr, hcr⟩ := T.RR
  obtain ⟨ra, rxs, rfl, hsq, hprs⟩ := hcr.tup
  refine okX F.F scName (fun vs H Q E h => ?_) (fun cdv A outer s H vs Q E hr h => ?_)
  · obtain ⟨_, rfl, _⟩ := h
    rfl
  · obtain ⟨n, rfl, k⟩ := h
    refine ⟨_, pss_cons (ps_for pown rfl (pi_itq rfl hd KD) (pg_tup rfl (pgs_cons (pg_name (i := 1) scName.nd rfl (Or.inl rfl)) (pgs_cons (pg_name (i := 2) scName.nd rfl (Or.inl rfl)) pgs_nil)))
        (pss_one (ps_if (pt_cmpR op_eq (pv 2) (pv 0) (nomark _)) (pss_one (ps_ret (pv 1))) pss_nil)))
      (pss_cons (ps_for pown rfl (pi_tup (pe_glob rfl hr1 rr)) (pg_tup rfl (pgs_cons (pg_name (i := 3) scName.nd rfl (Or.inl rfl)) (pgs_cons (pg_name (i := 4) scName.nd rfl (Or.inl rfl)) (pgs_cons (pg_name (i := 5) scName.nd rfl (Or.inl rfl)) (pgs_cons (pg_name (i := 6) scName.nd rfl (Or.inl rfl)) pgs_nil)))))
        (pss_one (ps_if (pt_chain op_le op_lt (pv 5) (pv 0) (pe_op op_add (pv 5) (pv 6)))
          (pss_one (ps_ret (pe_op op_add_str (pe_op op_add_str (pv 3) (pe_callTy call_str_int (by rfl) T.str (by decide +kernel) (pa_cons (pe_op op_sub (pv 0) (pv 5)) pa_nil))) (pv 4)))) pss_nil)))
      (pss_one (ps_ret pe_str))), ?_⟩
    refine for_itq (kvs := aloneKV) (fun i σ H' => ∃ v1 v2 : Option V, σ = [some (.int n), v1, v2, none, none, none, none] ∧ Same H H' ∧ (ALONE.take i).find? (fun p => decide (p.2 = n)) = none) ⟨none, none, rfl, Same.refl H, rfl⟩ ?_ ?_
    · rintro i ky v σ H' T hi ⟨v1, v2, rfl, sm, hn⟩ hT
      obtain ⟨p, hp, e⟩ : ∃ p, ALONE[i]? = some p ∧ (ky, v) = ((Sum.inr p.1 : Key), V.int p.2) := by
        unfold aloneKV at hi
        rw [List.getElem?_map] at hi
        cases q : ALONE[i]? with
        | none => rw [q] at hi; cases hi
        | some p => rw [q] at hi; exact ⟨p, rfl, (Option.some.inj hi).symm⟩
      cases e
      refine ⟨T, _, rfl, SqT.of upd_same, rfl, _, _, rfl, _, _, rfl, rfl, ?_⟩
      have sm' : Same H (L2.upd H' T (.tup [kV (Sum.inr p.1), V.int p.2])) := sm.trans (Same.upd hT)
      simp only [L2.start, tSeq, tIfS, tTest, tOp, tVar, tC, tRet, tRetN, tNext, tDrop, rEq, rNe, rI0, rI, scal_ii, scal_ss, scal_bb, scal_ni, scal_in, V.int.injEq, V.str.injEq, V.bl.injEq, V.ref.injEq, true_and, and_true, Option.some.injEq, exists_eq_left', exists_eq_left, exists_eq_right, exists_and_left, List.map_cons, List.map_nil, List.length_cons, List.length_nil, List.cons_append, List.nil_append, List.getElem?_cons_zero, List.getElem?_cons_succ, decide_eq_true_eq, Bool.not_eq_true', decide_eq_false_iff_not, List.replicate_zero, List.replicate_succ, Nat.reduceSub, Nat.sub_self, Nat.reduceAdd, Nat.zero_add, cxK, cxP, cxW, cxMg, tCall, tCons, tNil, tAsg, gName, List.set_cons_zero, List.set_cons_succ, tAnd, tOr, tNot, tIf, tNotV, tAndV, tOrV, tGix, tGix2, tGixS, tCB, List.append_nil, tMeth, tFld, rIxL, rIxT, tIsN, List.append_assoc]
      refine ite2 (fun h => ?_) fun h => ?_
      · have e : nameRead n = p.1 := by
          unfold nameRead
          rw [find_some_take hp hn (decide_eq_true h)]
        have z := k _ sm'
        rw [e] at z
        exact z
      · exact ⟨_, _, rfl, sm', find_none_take hp hn (decide_eq_false h)⟩
    · rintro σ H1 ⟨v1, v2, rfl, sm, hn⟩
      have hn' : ALONE.find? (fun p => decide (p.2 = n)) = none := hn
      have hlen : rxs.length = ROWS.length := by
        have := Paired.length hprs
        rw [List.length_map] at this
        exact this.symm
      refine ⟨ra, rfl, ⟨_, hsq H1⟩, for_tup (K := K) (a := ra) (xs := rxs) (fun i σ H' => ∃ w1 w2 w3 w4 : Option V, σ = [some (.int n), v1, v2, w1, w2, w3, w4] ∧ H' = H1 ∧ (ROWS.take i).find? (rowHas n) = none) ⟨none, none, none, none, rfl, rfl, rfl⟩ (fun i σ H' _ _ => hsq H') ?_ ?_⟩
      · rintro i x σ H' hi ⟨w1, w2, w3, w4, rfl, rfl, hm⟩
        have il : i < rxs.length := (List.getElem?_eq_some_iff.mp hi).1
        obtain ⟨r, hr'⟩ : ∃ r, ROWS[i]? = some r := ⟨_, List.getElem?_eq_getElem (by rw [hlen] at il; exact il)⟩
        obtain ⟨y, hy, hc⟩ := paired_get hprs (i := i) (a := rowTV r) (by rw [List.getElem?_map, hr']; rfl)
        rw [hi] at hy
        cases hy
        obtain ⟨a2, ys, rfl, hs2, hp2⟩ := Cst.tup hc
        obtain ⟨y1, hy1, t1⟩ : ∃ y1, ys = y1 :: ys.tail ∧ True := by cases hp2 with | cons a b => exact ⟨_, rfl, trivial⟩
        have ey : ys = [V.str r.1, V.str r.2.1, V.int r.2.2.1, V.int r.2.2.2] := by
          cases hp2 with
          | cons a b => cases b with
            | cons c d => cases d with
              | cons e f => cases f with
                | cons g h' =>
                  cases h'
                  rw [Cst.str a, Cst.str c, Cst.int e, Cst.int g]
        subst ey
        refine ⟨a2, _, rfl, hs2 _, rfl, _, _, rfl, _, _, rfl, _, _, rfl, _, _, rfl, rfl, ?_⟩
        simp only [L2.start, tSeq, tIfS, tTest, tOp, tVar, tC, tRet, tRetN, tNext, tDrop, rEq, rNe, rI0, rI, scal_ii, scal_ss, scal_bb, scal_ni, scal_in, V.int.injEq, V.str.injEq, V.bl.injEq, V.ref.injEq, true_and, and_true, Option.some.injEq, exists_eq_left', exists_eq_left, exists_eq_right, exists_and_left, List.map_cons, List.map_nil, List.length_cons, List.length_nil, List.cons_append, List.nil_append, List.getElem?_cons_zero, List.getElem?_cons_succ, decide_eq_true_eq, Bool.not_eq_true', decide_eq_false_iff_not, List.replicate_zero, List.replicate_succ, Nat.reduceSub, Nat.sub_self, Nat.reduceAdd, Nat.zero_add, cxK, cxP, cxW, cxMg, tCall, tCons, tNil, tAsg, gName, List.set_cons_zero, List.set_cons_succ, tAnd, tOr, tNot, tIf, tNotV, tAndV, tOrV, tGix, tGix2, tGixS, tCB, List.append_nil, tMeth, tFld, rIxL, rIxT, tIsN, List.append_assoc, tChain]
        have hf : rowHas n r = false → (ROWS.take (i + 1)).find? (rowHas n) = none := fun q => find_none_take hr' hm q
        refine ite2 (fun h1 => ?_) fun h1 => ?_
        · refine ite2 (fun h2 => ?_) fun h2 => ?_
          · have hrow : rowHas n r = true := by unfold rowHas; rw [decide_eq_true h1, decide_eq_true h2]; rfl
            have hmem : r ∈ ROWS := List.mem_of_getElem? hr'
            have hb : r.1.length ≤ 1 ∧ r.2.1.length ≤ 10 ∧ r.2.2.2 ≤ 64 := by
              have : ∀ r ∈ ROWS, r.1.length ≤ 1 ∧ r.2.1.length ≤ 10 ∧ r.2.2.2 ≤ 64 := by decide +kernel
              exact this r hmem
            have hl : (strI (n - r.2.2.1)).length ≤ 2 := len_strI (by omega) (by omega)
            have e : nameRead n = r.1 ++ strI (n - r.2.2.1) ++ r.2.1 := by
              unfold nameRead
              rw [hn', find_some_take hr' hm hrow]
            have z := k _ sm
            rw [e] at z
            have hlog : (n - r.2.2.1).natAbs.log2 < 1920 := Nat.lt_of_le_of_lt (Nat.log2_le_self _) (by omega)
            have hsz : (1000 : Nat) ≤ sizeLine := by decide
            have hl1 : (r.1 ++ strI (n - r.2.2.1)).length ≤ 3 := by
              rw [TL.len_tl, TL.tl_append, List.length_append, ← TL.len_tl, ← TL.len_tl]
              omega
            exact ⟨_, rfl, hlog, by show r.1.length + (strI (n - r.2.2.1)).length ≤ sizeLine; omega, by show (r.1 ++ strI (n - r.2.2.1)).length + r.2.1.length ≤ sizeLine; omega, z⟩
          · exact ⟨_, _, _, _, rfl, hf (by unfold rowHas; rw [decide_eq_false h2, Bool.and_false])⟩
        · exact ⟨_, _, _, _, rfl, hf (by unfold rowHas; rw [decide_eq_false h1, Bool.false_and])⟩
      · rintro σ H' ⟨w1, w2, w3, w4, rfl, rfl, hm⟩
        have hm' : ROWS.find? (rowHas n) = none := by
          rw [hlen] at hm
          exact hm
        have e : nameRead n = "" := by
          unfold nameRead
          rw [hn', hm']
        have z := k _ sm
        rw [e] at z
        exact z
end
end SB
end
section
set_option Elab.async false
set_option maxRecDepth 100000
set_option maxHeartbeats 4000000
set_option linter.all false
namespace SB
open PySem PySem.Spec PyProof.Rows L2 XL
open Vbdeaa (Text Exp Exps Un Bin)
def exL : Exps → List Exp
  | .nil => []
  | .cons e l => e :: exL l
def kids : Exp → List Exp
  | .num _ => []
  | .name _ => []
  | .un _ a => [a]
  | .bin _ a b => [a, b]
  | .and a b => [a, b]
  | .or a b => [a, b]
  | .cond c a b => [c, a, b]
  | .best _ l => exL l
  | .use _ l => exL l
def formN : Exp → Int
  | .num _ => 0
  | .name _ => 1
  | .un _ _ => 2
  | .bin _ _ _ => 3
  | .and _ _ => 4
  | .or _ _ => 5
  | .cond _ _ _ => 6
  | .best _ _ => 7
  | .use _ _ => 8
def unIx : Un → Nat
  | .neg => 0 | .not => 1 | .floor => 2 | .ceil => 3 | .abs => 4 | .sign => 5 | .num => 6 | .den => 7
def binIx : Bin → Nat
  | .add => 0 | .sub => 1 | .mul => 2 | .div => 3 | .quo => 4 | .rem => 5 | .pow => 6 | .eq => 7 | .ne => 8 | .lt => 9 | .le => 10 | .gt => 11 | .ge => 12
def txS (t : Text) : Str := ⟨(t.map Int.toNat).toArray⟩
def DetOk (H : Hp) : Exp → V → Prop
  | .num q, D => ∃ t, D = .ref t ∧ H t = some (.tup [.int q.1, .int (q.2 : Nat)])
  | .name n, D => D = .str (txS n)
  | .un o _, D => D = .int (unIx o)
  | .bin o _ _, D => D = .int (binIx o)
  | .best g _, D => D = .int (if g = true then 1 else 0)
  | .use n _, D => D = .str (txS n)
  | _, D => D = .int 0
def nodeF (fo : Int) (D : V) (l : Addr) (h : Int) : List (Str × V) := [("form", .int fo), ("detail", D), ("parts", .ref l), ("height", .int h)]
inductive NodeAt (C : Addr) (H : Hp) : Exp → Addr → Prop
  | mk {e : Exp} {a dx l : Addr} {D : V} {as : List Addr} : H a = some (.ins C dx (nodeF (formN e) D l e.height)) → DetOk H e D → H l = some (.lst (as.map V.ref)) → Paired (NodeAt C H) (kids e) as → NodeAt C H e a
theorem exs_height : ∀ (l : Exps) (e : Exp), e ∈ exL l → e.height ≤ l.height
  | .nil, e, h => by cases h
  | .cons a l, e, h => by
    show _ ≤ max a.height l.height
    rcases List.mem_cons.mp h with h | h
    · subst h; omega
    · have := exs_height l e h; omega
theorem kids_height {e k : Exp} (h : k ∈ kids e) : k.height < e.height := by
  cases e with
  | num q => cases h
  | name n => cases h
  | un o a => simp only [kids, List.mem_cons, List.not_mem_nil, or_false] at h; subst h; show _ < _ + 1; omega
  | bin o a b => simp only [kids, List.mem_cons, List.not_mem_nil, or_false] at h; show _ < max _ _ + 1; rcases h with h | h <;> subst h <;> omega
  | and a b => simp only [kids, List.mem_cons, List.not_mem_nil, or_false] at h; show _ < max _ _ + 1; rcases h with h | h <;> subst h <;> omega
  | or a b => simp only [kids, List.mem_cons, List.not_mem_nil, or_false] at h; show _ < max _ _ + 1; rcases h with h | h <;> subst h <;> omega
  | cond c a b => simp only [kids, List.mem_cons, List.not_mem_nil, or_false] at h; show _ < max _ (max _ _) + 1; rcases h with h | h | h <;> subst h <;> omega
  | best g l => have := exs_height l k h; show _ < _ + 1; omega
  | use n l => have := exs_height l k h; show _ < _ + 1; omega
def maxL (l : List Nat) : Nat := l.foldr max 0
theorem le_maxL : ∀ {l : List Nat} {x : Nat}, x ∈ l → x ≤ maxL l
  | a :: l, x, h => by
    show x ≤ max a (maxL l)
    rcases List.mem_cons.mp h with h | h
    · omega
    · have := le_maxL h; omega
theorem maxL_mem : ∀ {l : List Nat}, l ≠ [] → maxL l ∈ l
  | [], h => absurd rfl h
  | [a], _ => by show max a 0 ∈ [a]; rw [Nat.max_zero]; exact List.mem_cons_self
  | a :: b :: l, _ => by
    have ih := maxL_mem (l := b :: l) (by simp)
    show max a (maxL (b :: l)) ∈ a :: b :: l
    by_cases h : maxL (b :: l) ≤ a
    · rw [Nat.max_eq_left h]; exact List.mem_cons_self
    · rw [Nat.max_eq_right (by omega)]; exact List.mem_cons_of_mem _ ih
theorem maxL_of {l : List Nat} {m : Int} (h : (l.map (fun (n : Nat) => (n : Int)) = [] ∧ m = 0) ∨ (m ∈ l.map (fun (n : Nat) => (n : Int)) ∧ ∀ y ∈ l.map (fun (n : Nat) => (n : Int)), y ≤ m)) : m = maxL l := by
  rcases h with ⟨h1, h2⟩ | ⟨h1, h2⟩
  · have : l = [] := by simpa using h1
    subst this
    exact h2
  · obtain ⟨x, hx, e⟩ := List.mem_map.mp h1
    have a1 := le_maxL hx
    have a2 := h2 _ (List.mem_map.mpr ⟨maxL l, maxL_mem (by intro z; subst z; cases hx), rfl⟩)
    omega
theorem exs_height_eq : ∀ (l : Exps), l.height = maxL ((exL l).map Exp.height)
  | .nil => rfl
  | .cons a l => by
    show max a.height l.height = max a.height (maxL ((exL l).map Exp.height))
    rw [exs_height_eq l]
theorem height_eq (e : Exp) : e.height = 1 + maxL ((kids e).map Exp.height) := by
  cases e with
  | num q => rfl
  | name n => rfl
  | un o a => show a.height + 1 = 1 + max a.height 0; omega
  | bin o a b => show max a.height b.height + 1 = 1 + max a.height (max b.height 0); omega
  | and a b => show max a.height b.height + 1 = 1 + max a.height (max b.height 0); omega
  | or a b => show max a.height b.height + 1 = 1 + max a.height (max b.height 0); omega
  | cond c a b => show max c.height (max a.height b.height) + 1 = 1 + max c.height (max a.height (max b.height 0)); omega
  | best g l => show l.height + 1 = 1 + maxL ((exL l).map Exp.height); rw [exs_height_eq]; omega
  | use n l => show l.height + 1 = 1 + maxL ((exL l).map Exp.height); rw [exs_height_eq]; omega
theorem detOk_same {H H' : Hp} {e : Exp} {D : V} (s : ∀ b xs, H b = some (.tup xs) → H' b = some (.tup xs)) (h : DetOk H e D) : DetOk H' e D := by
  cases e with
  | num q => obtain ⟨t, e1, e2⟩ := h; exact ⟨t, e1, s _ _ e2⟩
  | _ => exact h
theorem paired_mem {α β : Type} {F G : α → β → Prop} : ∀ {l : List α} {m : List β}, Paired F l m → (∀ a b, a ∈ l → F a b → G a b) → Paired G l m
  | _, _, .nil, _ => .nil
  | _, _, .cons r t, f => .cons (f _ _ List.mem_cons_self r) (paired_mem t fun a b h => f a b (List.mem_cons_of_mem _ h))
theorem NodeAt.same {C : Addr} {H H' : Hp} (s : Same H H') : ∀ {e : Exp} {a : Addr}, NodeAt C H e a → NodeAt C H' e a := by
  have main : ∀ (n : Nat) (e : Exp) (a : Addr), e.height ≤ n → NodeAt C H e a → NodeAt C H' e a := by
    intro n
    induction n with
    | zero =>
      intro e a hn h
      have : 0 < e.height := by cases e <;> simp [Exp.height]
      omega
    | succ n ih =>
      intro e a hn h
      cases h with
      | mk h1 h2 h3 h4 => exact .mk (s _ _ h1) (detOk_same (fun b xs q => s _ _ q) h2) (s _ _ h3) (paired_mem h4 fun k b hk hb => ih k b (by have := kids_height hk; omega) hb)
  intro e a h
  exact main e.height e a (Nat.le_refl _) h
end SB
end
section
set_option Elab.async false
set_option maxRecDepth 100000
set_option maxHeartbeats 4000000
set_option linter.all false
namespace SB
open PySem PySem.Spec PyProof.Rows L2 XL
open Vbdeaa (Text Exp Exps Un Bin)
structure NodeC (K : PySem.W.Frag) (C : Addr) : Prop where
  cl : Cls K C
  nF : NoAttr K C "form"
  nD : NoAttr K C "detail"
  nP : NoAttr K C "parts"
  nH : NoAttr K C "height"
def SameX (x : Addr) (H H' : Hp) : Prop := ∀ b o, H b = some o → b ≠ x → H' b = some o
def spNode (C : Addr) : Sp := fun vs H Q _ => ∃ (x dx l : Addr) (e : Exp) (D : V) (as : List Addr), vs = [.ref x, .int (formN e), D, .ref l] ∧ H x = some (.ins C dx []) ∧ DetOk H e D ∧ H l = some (.lst (as.map V.ref)) ∧ Paired (NodeAt C H) (kids e) as ∧
  as.length < 2000 ∧ ∀ H', SameX x H H' → H' x = some (.ins C dx (nodeF (formN e) D l e.height)) → Q .non H'
abbrev sNode : Stmt := inClass (top 20) 0
theorem node_of {C : Addr} {H : Hp} {e : Exp} {a : Addr} (h : NodeAt C H e a) : ∃ dx D l as, H a = some (.ins C dx (nodeF (formN e) D l e.height)) ∧ DetOk H e D ∧ H l = some (.lst (as.map V.ref)) ∧ Paired (NodeAt C H) (kids e) as := by
  cases h with
  | mk h1 h2 h3 h4 => exact ⟨_, _, _, _, h1, h2, h3, h4⟩
section
variable {P : Program} {w : World} {K : PySem.W.Frag} {mg : Str → Option Value} {base : Heap}
theorem scNode : FnScope ["self", "form", "detail", "parts", "part"] ["self", "form", "detail", "parts"] (defScope sNode) := ⟨rfl, rfl, rfl, by decide +kernel, rfl, by decide +kernel, by decide +kernel⟩
theorem ok_node {f C : Addr} {fd : FuncData} (F : Fun K "__init__" "Node.__init__" sNode f fd) (T : NodeC K C) (hmax : mg "max" = none) : FnOk P w K mg base (CXr P w) 1 f fd ["self", "form", "detail", "parts"] (spNode C) := by
  refine okX F scNode (fun vs H Q E h => ?_) (fun cdv A outer s H vs Q E hr h => ?_)
  · obtain ⟨_, _, _, _, _, _, rfl, _⟩ := h
    rfl
  · obtain ⟨x, dx, l, e, D, as, rfl, hx, hD, hl, hp, hlen, k⟩ := h
    refine ⟨_, pss_cons (ps_fld (pv 0) (pv 1) rfl) (pss_cons (ps_fld (pv 0) (pv 2) rfl) (pss_cons (ps_fld (pv 0) (pv 3) rfl)
      (pss_one (ps_fld (pv 0) (pe_op op_add pe_int (pe_maxd rfl rfl hmax (pa_cons (pe_lc (own := [("part", 4)]) (te := tFld K (tVar 4) "height") rfl scNode.nd (pi_list (pv 3)) (blkOk_by (by kernel_rfl))
        (fun _ _ _ _ _ => by exact pg_name (i := 4) scNode.nd rfl (Or.inl rfl)) (fun _ _ _ _ _ => by exact pts_nil) (fun _ _ _ _ _ => by exact pe_fld (pv 4) rfl)) pa_nil) (pk_cons pe_int pk_nil))) rfl)))), ?_⟩
    have nlx : l ≠ x := ne_of hl hx (by intro z; cases z)
    have put1 : putF "form" (.int (formN e)) [] = [(("form" : Str), V.int (formN e))] := rfl
    refine ⟨_, rfl, _, rfl, x, C, dx, [], rfl, hx, T.cl, T.nF, (by decide), ?_⟩
    refine ⟨_, rfl, _, rfl, x, C, dx, _, rfl, upd_same, T.cl, T.nD, (by show 1 < 1000; decide), ?_⟩
    refine ⟨_, rfl, _, rfl, x, C, dx, _, rfl, upd_same, T.cl, T.nP, (by show 2 < 1000; decide), ?_⟩
    generalize hH3 : L2.upd (L2.upd (L2.upd H x (.ins C dx (putF "form" (.int (formN e)) []))) x (.ins C dx (putF "detail" D (putF "form" (.int (formN e)) [])))) x (.ins C dx (putF "parts" (.ref l) (putF "detail" D (putF "form" (.int (formN e)) [])))) = H3
    have sx : SameX x H H3 := fun b o q hb => by rw [← hH3, upd_ne hb, upd_ne hb, upd_ne hb]; exact q
    have hx3 : H3 x = some (.ins C dx [("form", .int (formN e)), ("detail", D), ("parts", .ref l)]) := by rw [← hH3]; exact upd_same
    have hl3 := sx l _ hl nlx
    refine ⟨_, rfl, l, rfl, ⟨_, SqL.of hl3⟩, fun L hL => lc_list (K := K) (a := l) (xs := as.map V.ref) (fun i H' => SameX L H3 H' ∧ H' L = some (.lst (((((kids e).map Exp.height).take i).map (fun (n : Nat) => (n : Int))).map V.int))) ⟨fun b o q hb => by rw [upd_ne hb]; exact q, upd_same⟩
      (fun i H' _ ⟨s1, _⟩ => SqL.of (s1 l _ hl3 (ne_of_none hl3 hL))) ?_ ?_⟩
    · rintro i y H' hi ⟨s1, hL'⟩
      rw [List.getElem?_map] at hi
      obtain ⟨a, ha, rfl⟩ : ∃ a, as[i]? = some a ∧ y = V.ref a := by
        cases q : as[i]? with
        | none => rw [q] at hi; cases hi
        | some a => rw [q] at hi; exact ⟨a, rfl, (Option.some.inj hi).symm⟩
      have il : i < (kids e).length := by rw [Paired.length hp]; exact (List.getElem?_eq_some_iff.mp ha).1
      obtain ⟨kd, hkd⟩ : ∃ kd, (kids e)[i]? = some kd := ⟨_, List.getElem?_eq_getElem il⟩
      obtain ⟨a', ha', hna⟩ := paired_get hp hkd
      rw [ha] at ha'
      cases ha'
      obtain ⟨dx', D', l', as', h1, _⟩ := node_of hna
      have nax : a ≠ x := ne_of h1 hx (by intro z; injection z with _ _ z; cases z)
      have h1' := s1 a _ (sx a _ h1 nax) (ne_of_none (sx a _ h1 nax) hL)
      refine ⟨rfl, _, rfl, a, C, dx', _, _, rfl, h1', T.cl, T.nH, rfl, _, hL', ?_, fun b o q hb => by rw [upd_ne hb]; exact s1 b o q hb, ?_⟩
      · rw [List.length_map, List.length_map, List.length_take]
        exact Nat.lt_of_le_of_lt (Nat.min_le_right _ _) (by rw [List.length_map, Paired.length hp]; exact Nat.lt_of_lt_of_le hlen (by decide))
      · rw [upd_same]
        have e1 : ((kids e).map Exp.height)[i]? = some kd.height := by rw [List.getElem?_map, hkd]; rfl
        rw [List.take_succ, e1]
        simp
    · rintro H' ⟨s1, hL'⟩
      rw [List.length_map, ← Paired.length hp, show (kids e).length = ((kids e).map Exp.height).length by rw [List.length_map], List.take_length] at hL'
      have nxL : x ≠ L := ne_of_none hx3 hL
      have hx4 := s1 x _ hx3 nxL
      refine ⟨L, _, 0, rfl, rfl, SqL.of hL', fun m hm => ?_⟩
      have em := maxL_of (l := (kids e).map Exp.height) hm
      have eh : 1 + m = (e.height : Int) := by rw [height_eq, em]; omega
      refine ⟨_, _, rfl, rfl, _, rfl, x, C, dx, _, rfl, hx4, T.cl, T.nH, (by show 3 < 1000; decide), ?_⟩
      show Q .non (L2.upd H' x (.ins C dx (putF "height" (.int (1 + m)) _)))
      rw [eh]
      refine k _ (fun b o q hb => ?_) upd_same
      rw [upd_ne hb]
      have q3 := sx b o q hb
      exact s1 b o q3 (ne_of_none q3 hL)
end
end SB
end
section
set_option Elab.async false
set_option maxRecDepth 100000
set_option maxHeartbeats 4000000
set_option linter.all false
namespace SB
open PySem PySem.Spec PyProof.Rows L2 XL
open Vbdeaa (Text Exp Exps Un Bin)
theorem Same.new2 {H : Hp} {x dx C : Addr} (nx : H x = none) (nd : H dx = none) : Same H (L2.upd (L2.upd H dx (.own x)) x (.ins C dx [])) := fun b o e => by
  rw [upd_ne (ne_of_none e nx), upd_ne (ne_of_none e nd)]
  exact e
theorem paired_same {C : Addr} {H H' : Hp} (s : Same H H') {es : List Exp} {as : List Addr} (h : Paired (NodeAt C H) es as) : Paired (NodeAt C H') es as := paired_mem h fun _ _ _ q => q.same s
def NewL (H : Hp) (Q : VK) (xs : List V) : Prop := ∀ l H', H l = none → Same H H' → H' l = some (.lst xs) → Q (.ref l) H'
def ordL (x : Str) : List V := (TL.tl x).map fun (c : Nat) => V.int c
def spSigns : Sp := fun vs H Q _ => ∃ x : Str, vs = [.str x] ∧ x.length < 4000 ∧ NewL H Q (ordL x)
abbrev sSigns : Stmt := top 45
abbrev sWants : Stmt := top 46
abbrev sNest : Stmt := top 47
section
variable {P : Program} {w : World} {K : PySem.W.Frag} {mg : Str → Option Value} {base : Heap}
theorem scSigns : FnScope ["text", "sign"] ["text"] (defScope sSigns) := ⟨rfl, rfl, rfl, by decide +kernel, rfl, by decide +kernel, by decide +kernel⟩
theorem lc_str {x : Str} {g : TG} {tt : TT} {te : TE} {vs : List Nat} {σ : L2.St} {H1 : Hp} {D : Addr} {Qd : Hp → Prop} (Pv : Nat → Hp → Prop) (h0 : Pv 0 (L2.upd H1 D (.lst [])))
    (hs : ∀ i c H, (TL.tl x)[i]? = some c → Pv i H → g (.str ⟨#[c]⟩) (wipe σ vs) H fun σ2 H2 => wipe σ2 vs = wipe σ vs ∧ tt σ2 H2 fun b H3 =>
      if b = true then te σ2 H3 fun y H4 => ∃ acc, H4 D = some (.lst acc) ∧ acc.length < sizeLine ∧ Pv (i + 1) (L2.upd H4 D (.lst (acc ++ [y]))) else Pv (i + 1) H3) (hd : ∀ H, Pv (TL.tl x).length H → Qd H) :
    ∃ W : Nat → Nat → Hp → Prop, (∃ m, W 0 m (L2.upd H1 D (.lst []))) ∧ ∀ i m H, W i m H →
      ((Its x).stop i H ∧ Qd H) ∨ ((Its x).go i H ∧ ∃ Nx : Hp → Prop, (∀ H', Nx H' → ∃ m', m' < m ∧ W (i + 1) m' H') ∧ ∀ y H', (Its x).yld i H y H' → g y (wipe σ vs) H' fun σ2 H2 => wipe σ2 vs = wipe σ vs ∧ tt σ2 H2 fun b H3 =>
        if b = true then te σ2 H3 fun y H4 => ∃ acc, H4 D = some (.lst acc) ∧ acc.length < sizeLine ∧ Nx (L2.upd H4 D (.lst (acc ++ [y]))) else Nx H3) := by
  have hz : x.cps.size = (TL.tl x).length := by simp [TL.tl]
  refine ⟨fun i m H => m = (TL.tl x).length - i ∧ i ≤ (TL.tl x).length ∧ Pv i H, ⟨(TL.tl x).length, by simp, Nat.zero_le _, h0⟩, ?_⟩
  rintro i m H ⟨rfl, hi, p⟩
  by_cases hlt : i < (TL.tl x).length
  · refine .inr ⟨by show i < x.cps.size; omega, Pv (i + 1), fun H' p' => ⟨(TL.tl x).length - (i + 1), by omega, rfl, hlt, p'⟩, fun y H' q => ?_⟩
    obtain ⟨e, c, hc, rfl⟩ := q
    subst e
    exact hs i c _ (by simpa [TL.tl] using hc) p
  · have e : i = (TL.tl x).length := by omega
    subst e
    exact .inl ⟨by show x.cps.size ≤ _; omega, hd H p⟩
theorem ok_signs {f : Addr} {fd : FuncData} (F : Fn K mg "signs_of" sSigns f fd ["text"]) (hord : mg "ord" = none) : FnOk P w K mg base (CXr P w) 1 f fd ["text"] spSigns := by
  refine okX F.F scSigns (fun vs H Q E h => ?_) (fun cdv A outer s H vs Q E hr h => ?_)
  · obtain ⟨_, rfl, _⟩ := h
    rfl
  · obtain ⟨x, rfl, hx, k⟩ := h
    refine ⟨_, pss_one (ps_ret (pe_lc (own := [("sign", 1)]) (te := tCB _ (tCons (tVar 1) tNil)) rfl scSigns.nd (pi_str (pv 0)) (blkOk_by (by kernel_rfl))
        (fun _ _ _ _ _ => by exact pg_name (i := 1) scSigns.nd rfl (Or.inl rfl)) (fun _ _ _ _ _ => by exact pts_nil) (fun _ _ _ _ _ => by exact pe_callB call_ord (by rfl) hord (by decide +kernel) (pa_cons (pv 1) pa_nil)))), ?_⟩
    refine ⟨_, rfl, x, rfl, fun L hL => lc_str (x := x) (fun i H' => SameX L H H' ∧ H' L = some (.lst ((ordL x).take i))) ⟨fun b o q hb => by rw [upd_ne hb]; exact q, upd_same⟩ ?_ ?_⟩
    · rintro i c H' hi ⟨s1, hL'⟩
      refine ⟨rfl, _, rfl, ⟨#[c]⟩, rfl, rfl, _, hL', ?_, fun b o q hb => by rw [upd_ne hb]; exact s1 b o q hb, ?_⟩
      · rw [List.length_take]
        refine Nat.lt_of_le_of_lt (Nat.min_le_right _ _) ?_
        unfold ordL
        rw [List.length_map, ← TL.len_tl]
        exact Nat.lt_of_lt_of_le hx (by decide)
      · rw [upd_same]
        have e1 : (ordL x)[i]? = some (V.int c) := by unfold ordL; rw [List.getElem?_map, hi]; rfl
        rw [List.take_succ, e1]
        rfl
    · rintro H' ⟨s1, hL'⟩
      rw [show (TL.tl x).length = (ordL x).length by unfold ordL; rw [List.length_map], List.take_length] at hL'
      exact k L H' hL (fun b o q => s1 b o q (ne_of_none q hL)) hL'
end
end SB
end
section
set_option Elab.async false
set_option maxRecDepth 100000
set_option maxHeartbeats 4000000
set_option linter.all false
namespace SB
open PySem PySem.Spec PyProof.Rows L2 XL
open Vbdeaa (Text Exp Exps Un Bin)
theorem kind_exp {H : Hp} {e : Exp} {D : V} (h : DetOk H e D) : KindR (formN e) D (e.level : Int) := by
  cases e with
  | num q => exact KindR.else_ (f := 0) (by decide) (by decide) (by decide) (by decide) (by decide)
  | name n => exact KindR.else_ (f := 1) (by decide) (by decide) (by decide) (by decide) (by decide)
  | un o a =>
    obtain rfl : D = .int (unIx o) := h
    cases o <;> exact .one rfl
  | bin o a b =>
    obtain rfl : D = .int (binIx o) := h
    cases o <;> exact .two rfl
  | and a b => exact .and_
  | or a b => exact .or_
  | cond c a b => exact .if_
  | best g l => exact KindR.else_ (f := 7) (by decide) (by decide) (by decide) (by decide) (by decide)
  | use n l => exact KindR.else_ (f := 8) (by decide) (by decide) (by decide) (by decide) (by decide)
def tabN (l : List (List Int)) (c : Int) (lev i : Nat) : Int := if lev = 9 then c else (l.getD lev []).getD i 0
theorem tab_ok (e : Exp) {i : Nat} (hi : i < (kids e).length) : TabR PLACEL 0 (e.level : Int) (i : Int) (tabN PLACEL 0 e.level i) ∧ TabR AROUNDL 1 (e.level : Int) (i : Int) (tabN AROUNDL 1 e.level i) := by
  have nine : ∀ (l : List (List Int)) (c : Int), e.level = 9 → TabR l c (e.level : Int) (i : Int) (tabN l c e.level i) := fun l c h => .inl ⟨by rw [h]; rfl, by unfold tabN; rw [if_pos h]⟩
  have less : ∀ (k : Nat), e.level = k → k ≠ 9 → (∃ m, atI PLACEL (k : Int) = some m ∧ atI m (i : Int) = some (tabN PLACEL 0 k i)) → (∃ m, atI AROUNDL (k : Int) = some m ∧ atI m (i : Int) = some (tabN AROUNDL 1 k i)) →
      TabR PLACEL 0 (e.level : Int) (i : Int) (tabN PLACEL 0 e.level i) ∧ TabR AROUNDL 1 (e.level : Int) (i : Int) (tabN AROUNDL 1 e.level i) := fun k h hk h1 h2 => by
    rw [h]
    exact ⟨.inr ⟨by omega, h1⟩, .inr ⟨by omega, h2⟩⟩
  have c1 : ∀ j, j < 1 → i = j → i = 0 := by omega
  cases e with
  | num q => exact absurd hi (by simp [kids])
  | name n => exact absurd hi (by simp [kids])
  | un o a =>
    have h0 : i = 0 := by simp [kids] at hi; omega
    subst h0
    cases o with
    | neg => exact less 7 rfl (by decide) ⟨[7], rfl, rfl⟩ ⟨[1], rfl, rfl⟩
    | not => exact less 3 rfl (by decide) ⟨[3], rfl, rfl⟩ ⟨[1], rfl, rfl⟩
    | _ => exact ⟨nine _ _ rfl, nine _ _ rfl⟩
  | bin o a b =>
    have h0 : i = 0 ∨ i = 1 := by simp [kids] at hi; omega
    rcases h0 with rfl | rfl <;> cases o <;> first
      | exact less 5 rfl (by decide) ⟨[5, 6], rfl, rfl⟩ ⟨[0, 0], rfl, rfl⟩
      | exact less 6 rfl (by decide) ⟨[6, 7], rfl, rfl⟩ ⟨[0, 0], rfl, rfl⟩
      | exact less 8 rfl (by decide) ⟨[9, 7], rfl, rfl⟩ ⟨[0, 1], rfl, rfl⟩
      | exact less 4 rfl (by decide) ⟨[5, 5], rfl, rfl⟩ ⟨[0, 0], rfl, rfl⟩
  | and a b =>
    have h0 : i = 0 ∨ i = 1 := by simp [kids] at hi; omega
    rcases h0 with rfl | rfl <;> exact less 2 rfl (by decide) ⟨[2, 3], rfl, rfl⟩ ⟨[0, 0], rfl, rfl⟩
  | or a b =>
    have h0 : i = 0 ∨ i = 1 := by simp [kids] at hi; omega
    rcases h0 with rfl | rfl <;> exact less 1 rfl (by decide) ⟨[1, 2], rfl, rfl⟩ ⟨[0, 0], rfl, rfl⟩
  | cond c a b =>
    have h0 : i = 0 ∨ i = 1 ∨ i = 2 := by simp [kids] at hi; omega
    rcases h0 with rfl | rfl | rfl <;> exact less 0 rfl (by decide) ⟨[0, 0, 0], rfl, rfl⟩ ⟨[1, 1, 1], rfl, rfl⟩
  | best g l => exact ⟨nine _ _ rfl, nine _ _ rfl⟩
  | use n l => exact ⟨nine _ _ rfl, nine _ _ rfl⟩
def wantsB (e p : Exp) (i : Nat) : Bool := decide ((p.level : Int) < tabN PLACEL 0 e.level i)
def nestStep (e : Exp) (r : Exp → Int) (acc : Int) (pi : Exp × Nat) : Int :=
  let d := tabN AROUNDL 1 e.level pi.2 + r pi.1 + (if wantsB e pi.1 pi.2 = true then 1 else 0)
  if d > acc then d else acc
def nestF : Nat → Exp → Int
  | 0, _ => 0
  | k + 1, e => (kids e).zipIdx.foldl (nestStep e (nestF k)) 0
def nestI (e : Exp) : Int := nestF e.height e
theorem foldl_mem {α β : Type} {f g : β → α → β} : ∀ {l : List α} {b : β}, (∀ a ∈ l, ∀ b, f b a = g b a) → l.foldl f b = l.foldl g b
  | [], _, _ => rfl
  | x :: l, b, h => by
    rw [List.foldl_cons, List.foldl_cons, h x List.mem_cons_self]
    exact foldl_mem fun a ha => h a (List.mem_cons_of_mem _ ha)
theorem mem_zipIdx_fst {α : Type} {l : List α} {p : α × Nat} (h : p ∈ l.zipIdx) : p.1 ∈ l := by
  obtain ⟨a, i⟩ := p
  have := List.mem_zipIdx h
  exact this.2.2 ▸ List.getElem_mem _
theorem nestF_eq : ∀ (n m : Nat) (e : Exp), e.height ≤ n → e.height ≤ m → nestF n e = nestF m e := by
  intro n
  induction n with
  | zero => intro m e h; have : 0 < e.height := by rw [height_eq]; omega
            omega
  | succ n ih =>
    intro m e h1 h2
    cases m with
    | zero => have : 0 < e.height := by rw [height_eq]; omega
              omega
    | succ m =>
      refine foldl_mem fun p hp b => ?_
      have hk := kids_height (mem_zipIdx_fst hp)
      unfold nestStep
      rw [ih m p.1 (by omega) (by omega)]
theorem nestI_eq (e : Exp) : nestI e = (kids e).zipIdx.foldl (nestStep e nestI) 0 := by
  unfold nestI
  have hh := height_eq e
  rw [hh, Nat.add_comm]
  refine foldl_mem fun p hp b => ?_
  have hk := kids_height (mem_zipIdx_fst hp)
  have e2 : nestF (maxL ((kids e).map Exp.height)) p.1 = nestF p.1.height p.1 := nestF_eq _ _ _ (by omega) (Nat.le_refl _)
  unfold nestStep
  rw [e2]
def spWants (C : Addr) : Sp := fun vs H Q _ => ∃ (a : Addr) (e p : Exp) (i : Nat), vs = [.ref a, .int i] ∧ NodeAt C H e a ∧ (kids e)[i]? = some p ∧ Q (.bl (wantsB e p i)) H
section
variable {P : Program} {w : World} {K : PySem.W.Frag} {mg : Str → Option Value} {base : Heap}
theorem scWants : FnScope ["node", "position", "part"] ["node", "position"] (defScope sWants) := ⟨rfl, rfl, rfl, by decide +kernel, rfl, by decide +kernel, by decide +kernel⟩
theorem ok_wants {f C fK fP : Addr} {fd fdK fdP : FuncData} (F : Fn K mg "wants_brackets" sWants f fd ["node", "position"]) (T : NodeC K C) (FK : Fn K mg "kind_of" sKind fK fdK ["form", "detail"]) (FP : Fn K mg "place_of" sPlace fP fdP ["kind", "position"]) (TC : CN K mg) :
    FnOk P w K mg base (CXr P w) 2 f fd ["node", "position"] (spWants C) := by
  have GK : FnOk P w K mg base (CXr P w) 1 fK fdK _ _ := ok_kind FK TC
  have GP : FnOk P w K mg base (CXr P w) 1 fP fdP _ _ := ok_place FP TC
  refine okX F.F scWants (fun vs H Q E h => ?_) (fun cdv A outer s H vs Q E hr h => ?_)
  · obtain ⟨_, _, _, _, rfl, _⟩ := h
    rfl
  · obtain ⟨a, e, p, i, rfl, hn, hi, k⟩ := h
    obtain ⟨dx, D, l, as, h1, hD, hl, hp⟩ := node_of hn
    obtain ⟨b, hb, hnb⟩ := paired_get hp hi
    obtain ⟨dx', D', l', as', h1', hD', _, _⟩ := node_of hnb
    refine ⟨_, pss_cons (ps_set (i := 2) scWants.nd rfl (Or.inl rfl) (pe_ix ix_list (pe_fld (pv 0) rfl) (pv 1) (fun _ _ => rfl)))
      (pss_one (ps_ret (pe_cmpR op_lt (pe_call GK hr rfl FK.m FK.F.kp FK.b .nil passes (pa_cons (pe_fld (pv 2) rfl) (pa_cons (pe_fld (pv 2) rfl) pa_nil)))
        (pe_call GP hr rfl FP.m FP.F.kp FP.b .nil passes (pa_cons (pe_call GK hr rfl FK.m FK.F.kp FK.b .nil passes (pa_cons (pe_fld (pv 0) rfl) (pa_cons (pe_fld (pv 0) rfl) pa_nil))) (pa_cons (pv 1) pa_nil))) (nomark _)))), ?_⟩
    refine ⟨_, rfl, a, C, dx, _, _, rfl, h1, T.cl, T.nP, rfl, _, rfl, l, _, _, _, rfl, rfl, SqL.of hl, atI_nat (by rw [List.getElem?_map, hb]; rfl), ?_⟩
    refine ⟨_, rfl, b, C, dx', _, _, rfl, h1', T.cl, T.nF, rfl, _, rfl, b, C, dx', _, _, rfl, h1', T.cl, T.nD, rfl, _, _, _, rfl, kind_exp hD', ?_⟩
    refine ⟨_, rfl, a, C, dx, _, _, rfl, h1, T.cl, T.nF, rfl, _, rfl, a, C, dx, _, _, rfl, h1, T.cl, T.nD, rfl, _, _, _, rfl, kind_exp hD, ?_⟩
    refine ⟨_, rfl, _, _, _, rfl, (tab_ok e (List.getElem?_eq_some_iff.mp hi).1).1, ?_⟩
    exact ⟨_, _, rfl, rfl, k⟩
end
end SB
end
section
set_option Elab.async false
set_option maxRecDepth 100000
set_option maxHeartbeats 4000000
set_option linter.all false
namespace SB
open PySem PySem.Spec PyProof.Rows L2 XL
open Vbdeaa (Text Exp Exps Un Bin)
theorem for_enum {K : PySem.W.Frag} {a : Addr} {xs : List V} {g : TG} {tb : TS} {D : Ends} {σ : L2.St} {H : Hp} (Pv : Nat → L2.St → Hp → Prop) (h0 : Pv 0 σ H) (hl : ∀ i σ H, i ≤ xs.length → Pv i σ H → SqL K H a xs)
    (hs : ∀ i x σ H T, xs[i]? = some x → Pv i σ H → H T = none → g (.ref T) σ (L2.upd H T (.tup [.int (i : Nat), x])) fun σ2 H2 => tb { D with nx := Pv (i + 1), ct := Pv (i + 1), bk := D.nx } σ2 H2) (hd : ∀ σ H, Pv xs.length σ H → D.nx σ H) :
    ∃ W : Nat → Nat → L2.St → Hp → Prop, (∃ m, W 0 m σ H) ∧ ∀ i m σ H, W i m σ H →
      ((Ite K a).stop i H ∧ D.nx σ H) ∨ ((Ite K a).go i H ∧ ∃ N : L2.St → Hp → Prop, (∀ σ' H', N σ' H' → ∃ m', m' < m ∧ W (i + 1) m' σ' H') ∧ ∀ x H', (Ite K a).yld i H x H' → g x σ H' fun σ2 H2 => tb { D with nx := N, ct := N, bk := D.nx } σ2 H2) := by
  refine ⟨fun i m σ H => m = xs.length - i ∧ i ≤ xs.length ∧ Pv i σ H, ⟨xs.length, by simp, Nat.zero_le _, h0⟩, ?_⟩
  rintro i m σ H ⟨rfl, hi, p⟩
  have q := hl i σ H hi p
  by_cases hlt : i < xs.length
  · refine .inr ⟨⟨xs, xs[i], q, by simp [hlt]⟩, Pv (i + 1), fun σ' H' p' => ⟨xs.length - (i + 1), by omega, rfl, hlt, p'⟩, fun x H' y => ?_⟩
    obtain ⟨T, z, rfl, hT, rfl, hz⟩ := y
    exact hs i z σ H T (hz xs q) p hT
  · have e : i = xs.length := by omega
    subst e
    exact .inl ⟨⟨xs, q, Nat.le_refl _⟩, hd σ H p⟩
def spNest (C : Addr) (n : Nat) : Sp := fun vs H Q _ => ∃ (a : Addr) (e : Exp), vs = [.ref a] ∧ NodeAt C H e a ∧ e.height ≤ n ∧ ∀ H', Same H H' → Q (.int (nestI e)) H'
theorem zip_take {α : Type} {l : List α} {i : Nat} {x : α} (h : l[i]? = some x) : (l.zipIdx).take (i + 1) = (l.zipIdx).take i ++ [(x, i)] := by
  rw [List.take_succ, List.getElem?_zipIdx, h]
  simp
section
variable {P : Program} {w : World} {K : PySem.W.Frag} {mg : Str → Option Value} {base : Heap}
theorem scNest : FnScope ["node", "kind", "deepest", "position", "part", "depth"] ["node"] (defScope sNest) := ⟨rfl, rfl, rfl, by decide +kernel, rfl, by decide +kernel, by decide +kernel⟩
theorem ok_nest {f C fK fA fW fP : Addr} {fd fdK fdA fdW fdP : FuncData} (F : Fn K mg "nesting_of" sNest f fd ["node"]) (T : NodeC K C) (FK : Fn K mg "kind_of" sKind fK fdK ["form", "detail"]) (FA : Fn K mg "around_of" sAround fA fdA ["kind", "position"])
    (FW : Fn K mg "wants_brackets" sWants fW fdW ["node", "position"]) (FP : Fn K mg "place_of" sPlace fP fdP ["kind", "position"]) (TC : CN K mg) (hmax : mg "max" = none) (hen : mg "enumerate" = none) :
    ∀ n : Nat, FnOk P w K mg base (CXr P w) (n + 3) f fd ["node"] (spNest C n) := by
  have GK : FnOk P w K mg base (CXr P w) 1 fK fdK _ _ := ok_kind FK TC
  have GA : FnOk P w K mg base (CXr P w) 1 fA fdA _ _ := ok_around FA TC
  have GW : FnOk P w K mg base (CXr P w) 2 fW fdW _ _ := ok_wants FW T FK FP TC
  intro n
  induction n with
  | zero =>
    refine okX F.F scNest (fun vs H Q E h => ?_) (fun cdv A outer s H vs Q E hr h => ?_)
    · obtain ⟨_, _, rfl, _⟩ := h
      rfl
    · obtain ⟨a, e, rfl, hn, hh, k⟩ := h
      have : 0 < e.height := by rw [height_eq]; omega
      omega
  | succ n ih =>
    refine okX F.F scNest (fun vs H Q E h => ?_) (fun cdv A outer s H vs Q E hr h => ?_)
    · obtain ⟨_, _, rfl, _⟩ := h
      rfl
    · obtain ⟨a, e, rfl, hn, hh, k⟩ := h
      obtain ⟨dx, D, l, as, h1, hD, hl, hp⟩ := node_of hn
      have hr1 : Room 1 _ := hr.mono (by omega)
      have hr2 : Room 2 _ := hr.mono (by omega)
      refine ⟨_, pss_cons (ps_set (i := 1) scNest.nd rfl (Or.inl rfl) (pe_call GK hr1 rfl FK.m FK.F.kp FK.b .nil passes (pa_cons (pe_fld (pv 0) rfl) (pa_cons (pe_fld (pv 0) rfl) pa_nil))))
        (pss_cons (ps_set (i := 2) scNest.nd rfl (Or.inl rfl) pe_int)
        (pss_cons (ps_for pown rfl (pi_enum rfl hen (pa_cons (pe_fld (pv 0) rfl) pa_nil)) (pg_tup rfl (pgs_cons (pg_name (i := 3) scNest.nd rfl (Or.inl rfl)) (pgs_cons (pg_name (i := 4) scNest.nd rfl (Or.inl rfl)) pgs_nil)))
          (pss_cons (ps_set (i := 5) scNest.nd rfl (Or.inl rfl) (pe_op op_add (pe_call GA hr1 rfl FA.m FA.F.kp FA.b .nil passes (pa_cons (pv 1) (pa_cons (pv 3) pa_nil))) (pe_call ih hr rfl F.m F.F.kp F.b .nil passes (pa_cons (pv 4) pa_nil))))
          (pss_cons (ps_if (pt_val (pe_call GW hr2 rfl FW.m FW.F.kp FW.b .nil passes (pa_cons (pv 0) (pa_cons (pv 3) pa_nil)))) (pss_one (ps_aug (i := 5) scNest.nd rfl (Or.inl rfl) pe_int ip_add)) pss_nil)
          (pss_one (ps_set (i := 2) scNest.nd rfl (Or.inl rfl) (pe_callB (call_max2 rfl) (by rfl) hmax (by decide +kernel) (pa_cons (pv 2) (pa_cons (pv 5) pa_nil))))))))
        (pss_one (ps_ret (pv 2))))), ?_⟩
      refine ⟨_, rfl, a, C, dx, _, _, rfl, h1, T.cl, T.nF, rfl, _, rfl, a, C, dx, _, _, rfl, h1, T.cl, T.nD, rfl, _, _, _, rfl, kind_exp hD, ?_⟩
      refine ⟨_, rfl, a, C, dx, _, _, rfl, h1, T.cl, T.nP, rfl, l, _, rfl, SqL.of hl, for_enum (K := K) (a := l) (xs := as.map V.ref) (fun i σ H' => ∃ v3 v4 v5 : Option V, σ = [some (.ref a), some (.int e.level), some (.int (((kids e).zipIdx.take i).foldl (nestStep e nestI) 0)), v3, v4, v5] ∧ Same H H')
        ⟨none, none, none, rfl, Same.refl H⟩ (fun i σ H' _ ⟨_, _, _, _, s1⟩ => SqL.of (s1 _ _ hl)) ?_ ?_⟩
      · rintro i x σ H' Tt hi ⟨v3, v4, v5, rfl, s1⟩ hT
        rw [List.getElem?_map] at hi
        obtain ⟨b, hb, rfl⟩ : ∃ b, as[i]? = some b ∧ x = V.ref b := by
          cases q : as[i]? with
          | none => rw [q] at hi; cases hi
          | some b => rw [q] at hi; exact ⟨b, rfl, (Option.some.inj hi).symm⟩
        have il : i < (kids e).length := by rw [Paired.length hp]; exact (List.getElem?_eq_some_iff.mp hb).1
        obtain ⟨kd, hkd⟩ : ∃ kd, (kids e)[i]? = some kd := ⟨_, List.getElem?_eq_getElem il⟩
        obtain ⟨b', hb', hnb⟩ := paired_get hp hkd
        rw [hb] at hb'
        cases hb'
        have s2 : Same H (L2.upd H' Tt (.tup [.int (i : Nat), .ref b])) := s1.trans (Same.upd hT)
        refine ⟨Tt, _, rfl, SqT.of upd_same, rfl, _, _, rfl, _, _, rfl, rfl, ?_⟩
        refine ⟨_, rfl, _, rfl, _, _, _, rfl, (tab_ok e il).2, ?_⟩
        refine ⟨_, rfl, b, kd, rfl, hnb.same s2, by have := kids_height (List.mem_of_getElem? hkd); omega, fun H3 s3 => ?_⟩
        have s4 := s2.trans s3
        refine ⟨_, _, rfl, rfl, ?_⟩
        refine ⟨_, rfl, _, rfl, a, e, kd, i, rfl, hn.same s4, hkd, _, rfl, ?_⟩
        have fin : ∀ d : Int, d = tabN AROUNDL 1 e.level i + nestI kd + (if wantsB e kd i = true then 1 else 0) →
            (if d > ((kids e).zipIdx.take i).foldl (nestStep e nestI) 0 then d else ((kids e).zipIdx.take i).foldl (nestStep e nestI) 0) = ((kids e).zipIdx.take (i + 1)).foldl (nestStep e nestI) 0 := fun d hd => by
          rw [zip_take hkd, List.foldl_append, List.foldl_cons, List.foldl_nil]
          show _ = nestStep e nestI _ (kd, i)
          unfold nestStep
          rw [hd]
        cases hw : wantsB e kd i with
        | true =>
          refine iteT ⟨_, rfl, _, _, rfl, rfl, ?_⟩
          refine ⟨_, rfl, _, rfl, _, _, rfl, ?_⟩
          exact ⟨_, _, _, by rw [fin _ (by rw [hw, if_pos rfl])]; rfl, s4⟩
        | false =>
          refine iteF ?_
          refine ⟨_, rfl, _, rfl, _, _, rfl, ?_⟩
          exact ⟨_, _, _, by rw [fin _ (by rw [hw, if_neg (by decide), Int.add_zero])]; rfl, s4⟩
      · rintro σ H' ⟨v3, v4, v5, rfl, s1⟩
        rw [List.length_map, ← Paired.length hp, show (kids e).length = (kids e).zipIdx.length by rw [List.length_zipIdx], List.take_length, ← nestI_eq]
        exact ⟨_, rfl, k H' s1⟩
end
end SB
end
section
set_option Elab.async false
set_option maxRecDepth 100000
set_option maxHeartbeats 4000000
set_option linter.all false
namespace SB
open PySem PySem.Spec PyProof.Rows L2 XL
open Vbdeaa (Text Exp Exps Un Bin)
def vI (t : Text) : List V := t.map V.int
theorem vI_append (a b : Text) : vI (a ++ b) = vI a ++ vI b := List.map_append
theorem text_ofString (s : String) : Vbdeaa.text s = (TL.tl (Str.ofString s)).map fun (c : Nat) => (c : Int) := by
  unfold Vbdeaa.text
  rw [TL.tl_ofString, List.map_map]
  rfl
theorem ordL_ofString (s : String) : ordL (Str.ofString s) = vI (Vbdeaa.text s) := by
  unfold ordL vI
  rw [text_ofString, List.map_map]
  rfl
theorem ordL_append (x y : Str) : ordL (x ++ y) = ordL x ++ ordL y := by
  unfold ordL
  rw [TL.tl_append, List.map_append]
theorem ordL_txS {t : Text} (h : ∀ c ∈ t, 0 ≤ c) : ordL (txS t) = vI t := by
  unfold ordL vI txS
  rw [TL.tl_mk, List.map_map]
  refine List.map_congr_left fun c hc => ?_
  have := h c hc
  show V.int ((c.toNat : Nat) : Int) = V.int c
  rw [Int.toNat_of_nonneg this]
theorem dec_strI {n : Nat} : ordL (strI (n : Int)) = vI (Vbdeaa.decimal n) := by
  unfold strI Vbdeaa.decimal
  rw [ordL_ofString]
  rfl
def okQ (q : Vbdeaa.Q) : Prop := 0 ≤ q.1 ∧ q.1 ≤ 1000000000000000000 ∧ 1 ≤ q.2 ∧ q.2 ≤ 1000000000000000000
theorem log_ok {n : Int} (h : n.natAbs ≤ 1000000000000000000) : n.natAbs.log2 < 1920 := by
  by_cases h0 : n.natAbs = 0
  · rw [h0]; decide
  · have : n.natAbs < 2 ^ 60 := Nat.lt_of_le_of_lt h (by decide)
    have := (Nat.log2_lt h0).mpr this
    omega
theorem len_strN {n : Nat} (h : n ≤ 1000000000000000000) : (strI (n : Int)).length ≤ 19 := by
  unfold strI
  rw [TL.len_tl, TL.tl_num n]
  exact TL.numL_len (by decide) (Nat.lt_of_le_of_lt h (by decide))
def ONEW : List Str := ["-", "not", "floor", "ceil", "abs", "sign", "num", "den"]
def PICKW : List Str := ["min", "max"]
def TWOS : List (List Int) := [[43], [45], [42], [47], [47, 47], [37], [94], [61], [60, 62], [60], [60, 61], [62], [62, 61]]
structure CP (K : PySem.W.Frag) (mg : Str → Option Value) : Prop where
  NUMBER : GC K mg "NUMBER" (.i 0)
  NAME : GC K mg "NAME" (.i 1)
  PICK : GC K mg "PICK" (.i 7)
  OW : GC K mg "ONE_WORDS" (tvss ONEW)
  PW : GC K mg "PICK_WORDS" (tvss PICKW)
  TS : GC K mg "TWO_SIGNS" (.t (TWOS.map tvs))
  OP : GC K mg "OPENING" (.i 40)
  CL : GC K mg "CLOSING" (.i 41)
  BL : GC K mg "BLANK" (.i 32)
  str : mg "str" = none
  list : mg "list" = none
  range : mg "range" = none
  len : mg "len" = none
def tGixT (K : PySem.W.Frag) (l : List (List Int)) (tb : TE) : TE := fun σ H Q => tb σ H fun y H1 => ∃ i m, y = .int i ∧ atI l i = some m ∧ ∀ a, (∀ H, SqT K H a (m.map V.int)) → Q (.ref a) H1
theorem pe_gixT {X : Cx} {x : Str} {l : List (List Int)} {b : Expr} {tb : TE} {p pos : Pos} (hg : Gl X x) (hm : GC X.K X.mg x (.t (l.map tvs))) (hb : PE X b tb) (hs : PlainIx b) (hd : (x == ("__debug__" : Str)) = false := by decide) :
    PE X (.Subscript (.Name x p) b pos) (tGixT X.K l tb) := by
  obtain ⟨u, v, e, r, hcc⟩ := hm
  obtain ⟨a, xs, rfl, hsq, hp⟩ := hcc.tup
  intro pins s σ H Q I h
  refine pe_ix ix_tup (pe_glob hg e r hd) (pe_mo hb) hs pins s σ H Q I ⟨_, h, fun y H1 ⟨i, m, e1, e2, q⟩ => ?_⟩
  obtain ⟨z, hz, hcz⟩ := paired_atI hp (i := i) (a := tvs m) (by rw [atI_map, e2]; rfl)
  obtain ⟨a2, ys, rfl, hsq2, hp2⟩ := hcz.tup
  have e3 := csts_ints hp2
  subst e3
  exact ⟨a, _, i, .ref a2, rfl, e1, hsq H1, hz, q a2 hsq2⟩
def spPNum : Sp := fun vs H Q _ => ∃ (t : Addr) (q : Vbdeaa.Q), vs = [.ref t] ∧ H t = some (.tup [.int q.1, .int (q.2 : Nat)]) ∧ okQ q ∧ NewL H Q (vI (Vbdeaa.shownQ q))
def spWord (C : Addr) : Sp := fun vs H Q _ => ∃ (a : Addr) (e : Exp) (x : Str), vs = [.ref a] ∧ NodeAt C H e a ∧ ((∃ o p, e = .un o p ∧ atI ONEW (unIx o) = some x) ∨ (∃ g l, e = .best g l ∧ x = (if g = true then "max" else "min")) ∨ (∃ n l, e = .use n l ∧ x = txS n)) ∧ Q (.str x) H
def spBefore : Sp := fun vs H Q _ => ∃ (i : Nat) (x : Str), vs = [.int i] ∧ atI ONEW i = some x ∧ NewL H Q (ordL (if x = "not" then x ++ (" " : Str) else x))
def joinT : Exp → Text
  | .and _ _ => Vbdeaa.text "and"
  | .or _ _ => Vbdeaa.text "or"
  | .bin o _ _ => Vbdeaa.text (Vbdeaa.binSign o)
  | _ => []
def spJoin (C : Addr) : Sp := fun vs H Q _ => ∃ (a : Addr) (e : Exp), vs = [.ref a] ∧ NodeAt C H e a ∧ (formN e = 3 ∨ formN e = 4 ∨ formN e = 5) ∧ NewL H Q (vI (joinT e))
abbrev sPNum : Stmt := top 50
abbrev sWord : Stmt := top 51
abbrev sBefore : Stmt := top 52
abbrev sJoin : Stmt := top 53
section
variable {P : Program} {w : World} {K : PySem.W.Frag} {mg : Str → Option Value} {base : Heap}
theorem scPNum : FnScope ["pair"] ["pair"] (defScope sPNum) := ⟨rfl, rfl, rfl, by decide +kernel, rfl, by decide +kernel, by decide +kernel⟩
theorem ok_pnum {f fS : Addr} {fd fdS : FuncData} (F : Fn K mg "printed_number" sPNum f fd ["pair"]) (FS : Fn K mg "signs_of" sSigns fS fdS ["text"]) (T : CP K mg) (hord : mg "ord" = none) : FnOk P w K mg base (CXr P w) 2 f fd ["pair"] spPNum := by
  have GS : FnOk P w K mg base (CXr P w) 1 fS fdS _ _ := ok_signs FS hord
  refine okX F.F scPNum (fun vs H Q E h => ?_) (fun cdv A outer s H vs Q E hr h => ?_)
  · obtain ⟨_, _, rfl, _⟩ := h
    rfl
  · obtain ⟨t, q, rfl, ht, ⟨q0, q1, q2, q3⟩, k⟩ := h
    obtain ⟨n, d⟩ := q
    dsimp only at ht q0 q1 q2 q3 k
    obtain ⟨m, rfl⟩ : ∃ m : Nat, n = m := ⟨n.toNat, by omega⟩
    refine ⟨_, pss_cons (ps_if (pt_cmpR op_eq (pe_ix ix_tup (pv 0) pe_int (fun _ _ => rfl)) pe_int (nomark _))
        (pss_one (ps_ret (pe_call GS hr rfl FS.m FS.F.kp FS.b .nil passes (pa_cons (pe_callTy call_str_int (by rfl) T.str (by decide +kernel) (pa_cons (pe_ix ix_tup (pv 0) pe_int (fun _ _ => rfl)) pa_nil)) pa_nil)))) pss_nil)
      (pss_one (ps_ret (pe_call GS hr rfl FS.m FS.F.kp FS.b .nil passes (pa_cons (pe_op op_add_str (pe_op op_add_str (pe_callTy call_str_int (by rfl) T.str (by decide +kernel) (pa_cons (pe_ix ix_tup (pv 0) pe_int (fun _ _ => rfl)) pa_nil)) pe_str)
        (pe_callTy call_str_int (by rfl) T.str (by decide +kernel) (pa_cons (pe_ix ix_tup (pv 0) pe_int (fun _ _ => rfl)) pa_nil))) pa_nil)))), ?_⟩
    have a0 : atI [V.int (m : Int), V.int (d : Int)] 0 = some (V.int m) := rfl
    have a1 : atI [V.int (m : Int), V.int (d : Int)] 1 = some (V.int d) := rfl
    have l1 := len_strN (n := m) (by omega)
    have l2 := len_strN (n := d) (by omega)
    have g1 : (m : Int).natAbs.log2 < 1920 := log_ok (by omega)
    have g2 : (d : Int).natAbs.log2 < 1920 := log_ok (by omega)
    refine ⟨_, rfl, t, _, _, _, rfl, rfl, SqT.of ht, a1, rfl, _, rfl, ?_⟩
    refine ite2 (fun h => ?_) fun h => ?_
    · have hd1 : d = 1 := by
        have z : V.int (d : Int) = V.int 1 := of_decide_eq_true h
        injection z with z
        omega
      subst hd1
      refine ⟨_, rfl, t, _, _, _, rfl, rfl, SqT.of ht, a0, _, rfl, g1, _, rfl, by show (strI m).length < 4000; omega, ?_⟩
      have e : vI (Vbdeaa.shownQ ((m : Int), 1)) = ordL (strI (m : Int)) := by
        rw [dec_strI]
        unfold Vbdeaa.shownQ
        simp
      rw [e] at k
      exact k
    · have hd1 : ¬ d = 1 := fun z => h (by rw [z]; rfl)
      refine ⟨_, rfl, t, _, _, _, rfl, rfl, SqT.of ht, a0, _, rfl, g1, _, _, rfl, rfl, ?_, _, rfl, t, _, _, _, rfl, rfl, SqT.of ht, a1, _, rfl, g2, _, _, rfl, rfl, ?_, _, rfl, ?_, ?_⟩
      · show (strI (m : Int)).length + (Str.ofString ":").length ≤ sizeLine
        have : (1000 : Nat) ≤ sizeLine := by decide
        have : (Str.ofString ":").length = 1 := by decide +kernel
        omega
      · show (strI (m : Int) ++ Str.ofString ":").length + (strI (d : Int)).length ≤ sizeLine
        have : (1000 : Nat) ≤ sizeLine := by decide
        have : (Str.ofString ":").length = 1 := by decide +kernel
        rw [TL.len_tl, TL.tl_append, List.length_append, ← TL.len_tl, ← TL.len_tl]
        omega
      · show (strI (m : Int) ++ Str.ofString ":" ++ strI (d : Int)).length < 4000
        have : (Str.ofString ":").length = 1 := by decide +kernel
        rw [TL.len_tl, TL.tl_append, TL.tl_append, List.length_append, List.length_append, ← TL.len_tl, ← TL.len_tl, ← TL.len_tl]
        omega
      · have e : vI (Vbdeaa.shownQ ((m : Int), d)) = ordL (strI (m : Int) ++ Str.ofString ":" ++ strI (d : Int)) := by
          rw [ordL_append, ordL_append, dec_strI, dec_strI, ordL_ofString]
          unfold Vbdeaa.shownQ
          dsimp only
          rw [if_neg hd1, vI_append, List.append_assoc]
          rfl
        rw [e] at k
        exact k
theorem scWord : FnScope ["node"] ["node"] (defScope sWord) := ⟨rfl, rfl, rfl, by decide +kernel, rfl, by decide +kernel, by decide +kernel⟩
theorem ok_word {f C : Addr} {fd : FuncData} (F : Fn K mg "word_of" sWord f fd ["node"]) (N : NodeC K C) (T : CP K mg) (TC : CN K mg) : FnOk P w K mg base (CXr P w) 1 f fd ["node"] (spWord C) := by
  refine okX F.F scWord (fun vs H Q E h => ?_) (fun cdv A outer s H vs Q E hr h => ?_)
  · obtain ⟨_, _, _, rfl, _⟩ := h
    rfl
  · obtain ⟨a, e, x, rfl, hn, hx, k⟩ := h
    obtain ⟨dx, D, l, as, h1, hD, hl, hp⟩ := node_of hn
    refine ⟨_, pss_cons (ps_if (pt_cmpR op_eq (pe_fld (pv 0) rfl) (pe_gi rfl TC.ONE) (nomark _)) (pss_one (ps_ret (pe_gixS rfl T.OW (pe_fld (pv 0) rfl) (fun _ _ => rfl)))) pss_nil)
      (pss_cons (ps_if (pt_cmpR op_eq (pe_fld (pv 0) rfl) (pe_gi rfl T.PICK) (nomark _)) (pss_one (ps_ret (pe_gixS rfl T.PW (pe_fld (pv 0) rfl) (fun _ _ => rfl)))) pss_nil)
      (pss_one (ps_ret (pe_fld (pv 0) rfl)))), ?_⟩
    refine ⟨_, rfl, a, C, dx, _, _, rfl, h1, N.cl, N.nF, rfl, rfl, _, rfl, ?_⟩
    rcases hx with ⟨o, p, rfl, hx⟩ | ⟨g, l', rfl, rfl⟩ | ⟨n, l', rfl, rfl⟩
    · obtain rfl : D = .int (unIx o) := hD
      exact iteT ⟨_, rfl, a, C, dx, _, _, rfl, h1, N.cl, N.nD, rfl, _, _, rfl, hx, k⟩
    · obtain rfl : D = .int (if g = true then 1 else 0) := hD
      refine iteF ⟨_, rfl, a, C, dx, _, _, rfl, h1, N.cl, N.nF, rfl, rfl, _, rfl, iteT ⟨_, rfl, a, C, dx, _, _, rfl, h1, N.cl, N.nD, rfl, _, _, rfl, ?_, k⟩⟩
      cases g <;> rfl
    · obtain rfl : D = .str (txS n) := hD
      exact iteF ⟨_, rfl, a, C, dx, _, _, rfl, h1, N.cl, N.nF, rfl, rfl, _, rfl, iteF ⟨_, rfl, a, C, dx, _, _, rfl, h1, N.cl, N.nD, rfl, k⟩⟩
theorem scBefore : FnScope ["detail", "word"] ["detail"] (defScope sBefore) := ⟨rfl, rfl, rfl, by decide +kernel, rfl, by decide +kernel, by decide +kernel⟩
theorem ok_before {f fS : Addr} {fd fdS : FuncData} (F : Fn K mg "printed_before" sBefore f fd ["detail"]) (FS : Fn K mg "signs_of" sSigns fS fdS ["text"]) (T : CP K mg) (hord : mg "ord" = none) : FnOk P w K mg base (CXr P w) 2 f fd ["detail"] spBefore := by
  have GS : FnOk P w K mg base (CXr P w) 1 fS fdS _ _ := ok_signs FS hord
  refine okX F.F scBefore (fun vs H Q E h => ?_) (fun cdv A outer s H vs Q E hr h => ?_)
  · obtain ⟨_, _, rfl, _⟩ := h
    rfl
  · obtain ⟨i, x, rfl, hx, k⟩ := h
    refine ⟨_, pss_cons (ps_set (i := 1) scBefore.nd rfl (Or.inl rfl) (pe_gixS rfl T.OW (pv 0) (fun _ _ => rfl)))
      (pss_one (ps_ret (pe_call GS hr rfl FS.m FS.F.kp FS.b .nil passes (pa_cons (pe_ifExp (pt_cmpR op_eq (pv 1) pe_str (nomark _)) (pe_op op_add_str (pv 1) pe_str) (pv 1)) pa_nil)))), ?_⟩
    have hl : x.length ≤ 10 := by
      have : ∀ y ∈ ONEW, y.length ≤ 10 := by decide +kernel
      refine this x ?_
      unfold atI at hx
      cases q : ixN ONEW.length (i : Int) with
      | none => rw [q] at hx; cases hx
      | some j => rw [q] at hx; exact List.mem_of_getElem? hx
    refine ⟨_, rfl, _, _, rfl, hx, _, rfl, rfl, _, rfl, ?_⟩
    have hs : (1000 : Nat) ≤ sizeLine := by decide
    have l1 : (Str.ofString " ").length = 1 := by decide +kernel
    refine ite2 (fun h => ?_) fun h => ?_
    · have hx' : x = Str.ofString "not" := by
        have z : V.str x = V.str (Str.ofString "not") := of_decide_eq_true h
        injection z
      rw [if_pos hx'] at k
      refine ⟨_, rfl, _, _, rfl, rfl, by show x.length + (Str.ofString " ").length ≤ sizeLine; omega, _, rfl, ?_, k⟩
      show (x ++ Str.ofString " ").length < 4000
      rw [TL.len_tl, TL.tl_append, List.length_append, ← TL.len_tl, ← TL.len_tl]
      omega
    · have hx' : ¬ x = Str.ofString "not" := fun z => h (by rw [z]; exact decide_eq_true rfl)
      rw [if_neg hx'] at k
      exact ⟨_, rfl, _, rfl, by show x.length < 4000; omega, k⟩
theorem scJoin : FnScope ["node"] ["node"] (defScope sJoin) := ⟨rfl, rfl, rfl, by decide +kernel, rfl, by decide +kernel, by decide +kernel⟩
theorem ok_join {f fS C : Addr} {fd fdS : FuncData} (F : Fn K mg "joining_signs" sJoin f fd ["node"]) (FS : Fn K mg "signs_of" sSigns fS fdS ["text"]) (N : NodeC K C) (T : CP K mg) (TC : CN K mg) (hord : mg "ord" = none) : FnOk P w K mg base (CXr P w) 2 f fd ["node"] (spJoin C) := by
  have GS : FnOk P w K mg base (CXr P w) 1 fS fdS _ _ := ok_signs FS hord
  refine okX F.F scJoin (fun vs H Q E h => ?_) (fun cdv A outer s H vs Q E hr h => ?_)
  · obtain ⟨_, _, rfl, _⟩ := h
    rfl
  · obtain ⟨a, e, rfl, hn, hf, k⟩ := h
    obtain ⟨dx, D, l, as, h1, hD, hl, hp⟩ := node_of hn
    refine ⟨_, pss_cons (ps_if (pt_cmpR op_eq (pe_fld (pv 0) rfl) (pe_gi rfl TC.AND) (nomark _)) (pss_one (ps_ret (pe_call GS hr rfl FS.m FS.F.kp FS.b .nil passes (pa_cons pe_str pa_nil)))) pss_nil)
      (pss_cons (ps_if (pt_cmpR op_eq (pe_fld (pv 0) rfl) (pe_gi rfl TC.OR) (nomark _)) (pss_one (ps_ret (pe_call GS hr rfl FS.m FS.F.kp FS.b .nil passes (pa_cons pe_str pa_nil)))) pss_nil)
      (pss_one (ps_ret (pe_callTy call_list_of (by rfl) T.list (by decide +kernel) (pa_cons (pe_gixT rfl T.TS (pe_fld (pv 0) rfl) (fun _ _ => rfl)) pa_nil))))), ?_⟩
    refine ⟨_, rfl, a, C, dx, _, _, rfl, h1, N.cl, N.nF, rfl, rfl, _, rfl, ?_⟩
    cases e with
    | and p q =>
      refine iteT ⟨_, rfl, by decide +kernel, ?_⟩
      rw [ordL_ofString]
      exact k
    | or p q =>
      refine iteF ⟨_, rfl, a, C, dx, _, _, rfl, h1, N.cl, N.nF, rfl, rfl, _, rfl, iteT ⟨_, rfl, by decide +kernel, ?_⟩⟩
      rw [ordL_ofString]
      exact k
    | bin o p q =>
      obtain rfl : D = .int (binIx o) := hD
      obtain ⟨m, hm, hmt⟩ : ∃ m, atI TWOS (binIx o) = some m ∧ Vbdeaa.text (Vbdeaa.binSign o) = m := by cases o <;> exact ⟨_, rfl, by decide +kernel⟩
      refine iteF ⟨_, rfl, a, C, dx, _, _, rfl, h1, N.cl, N.nF, rfl, rfl, _, rfl, iteF ⟨_, rfl, a, C, dx, _, _, rfl, h1, N.cl, N.nD, rfl, _, m, rfl, hm, fun a2 hs2 => ⟨a2, _, rfl, .inr (hs2 _), fun l2 hl2 => ?_⟩⟩⟩
      refine k l2 _ hl2 (Same.upd hl2) ?_
      rw [upd_same]
      show some (HO.lst (m.map V.int)) = some (HO.lst (vI (Vbdeaa.text (Vbdeaa.binSign o))))
      rw [hmt]
      rfl
    | num q => rcases hf with h | h | h <;> cases h
    | name n => rcases hf with h | h | h <;> cases h
    | un o p => rcases hf with h | h | h <;> cases h
    | cond c p q => rcases hf with h | h | h <;> cases h
    | best g l => rcases hf with h | h | h <;> cases h
    | use n l => rcases hf with h | h | h <;> cases h
end
end SB
end
section
set_option Elab.async false
set_option maxRecDepth 100000
set_option maxHeartbeats 4000000
set_option linter.all false
namespace SB
open PySem PySem.Spec PyProof.Rows L2 XL
open Vbdeaa (Text Exp Exps Un Bin)
def commaT : List Text → Text
  | [] => []
  | [t] => t
  | t :: u :: r => t ++ (Vbdeaa.text ", " ++ commaT (u :: r))
def commaF (acc : Text) (ts : List Text) : Text := ts.foldl (fun a t => a ++ Vbdeaa.text ", " ++ t) acc
theorem commaF_append (a b : Text) : ∀ ts, commaF (a ++ b) ts = a ++ commaF b ts
  | [] => rfl
  | t :: r => by
    show commaF (a ++ b ++ Vbdeaa.text ", " ++ t) r = a ++ commaF (b ++ Vbdeaa.text ", " ++ t) r
    rw [show a ++ b ++ Vbdeaa.text ", " ++ t = a ++ (b ++ Vbdeaa.text ", " ++ t) by simp only [List.append_assoc]]
    exact commaF_append a _ r
theorem commaF_eq : ∀ (ts : List Text) (t : Text), commaF t ts = commaT (t :: ts)
  | [], t => rfl
  | u :: r, t => by
    show commaF (t ++ Vbdeaa.text ", " ++ u) r = t ++ (Vbdeaa.text ", " ++ commaT (u :: r))
    rw [← commaF_eq r u, ← commaF_append, ← commaF_append, List.append_assoc]
theorem commaF_len : ∀ (ts : List Text) (t : Text), t.length ≤ (commaF t ts).length
  | [], t => Nat.le_refl _
  | u :: r, t => by
    refine Nat.le_trans ?_ (commaF_len r (t ++ Vbdeaa.text ", " ++ u))
    rw [List.length_append, List.length_append]
    omega
def SgAt (H : Hp) : List Text → List Addr → Prop := Paired fun t p => H p = some (.lst (vI t))
theorem sg_same {H H' : Hp} (s : Same H H') {ts : List Text} {ps : List Addr} (h : SgAt H ts ps) : SgAt H' ts ps := paired_mem h fun _ _ _ q => s _ _ q
def spCommas : Sp := fun vs H Q _ => ∃ (l : Addr) (ps : List Addr) (t : Text) (ts : List Text), vs = [.ref l] ∧ H l = some (.lst (ps.map V.ref)) ∧ SgAt H (t :: ts) ps ∧ (commaT (t :: ts)).length ≤ 1000000 ∧ NewL H Q (vI (commaT (t :: ts)))
abbrev sCommas : Stmt := top 54
section
variable {P : Program} {w : World} {K : PySem.W.Frag} {mg : Str → Option Value} {base : Heap}
theorem scCommas : FnScope ["parts", "signs", "part"] ["parts"] (defScope sCommas) := ⟨rfl, rfl, rfl, by decide +kernel, rfl, by decide +kernel, by decide +kernel⟩
theorem cut1 (x : V) (xs : List V) : cutV (x :: xs) (some 1) none = xs := by
  have h1 : HT.sIx (x :: xs).length 0 (some 1) = 1 := by
    have := HT.sIx_nat (x :: xs).length 0 1
    simp at this
    simpa using this
  have h2 : HT.sIx (x :: xs).length (x :: xs).length none = (x :: xs).length := HT.sIx_none _ _
  unfold cutV
  rw [h1, h2]
  simp
theorem ok_commas {f fS : Addr} {fd fdS : FuncData} (F : Fn K mg "with_commas" sCommas f fd ["parts"]) (FS : Fn K mg "signs_of" sSigns fS fdS ["text"]) (T : CP K mg) (hord : mg "ord" = none) : FnOk P w K mg base (CXr P w) 2 f fd ["parts"] spCommas := by
  have GS : FnOk P w K mg base (CXr P w) 1 fS fdS _ _ := ok_signs FS hord
  refine okX F.F scCommas (fun vs H Q E h => ?_) (fun cdv A outer s H vs Q E hr h => ?_)
  · obtain ⟨_, _, _, _, rfl, _⟩ := h
    rfl
  · obtain ⟨l, ps, t, ts, rfl, hl, hp, hlen, k⟩ := h
    obtain ⟨p0, pr, rfl, hp0, hpr⟩ : ∃ p0 pr, ps = p0 :: pr ∧ H p0 = some (.lst (vI t)) ∧ SgAt H ts pr := by
      cases hp with
      | cons a b => exact ⟨_, _, rfl, a, b⟩
    refine ⟨_, pss_cons (ps_set (i := 1) scCommas.nd rfl (Or.inl rfl) (pe_callTy call_list_of (by rfl) T.list (by decide +kernel) (pa_cons (pe_ix ix_list (pv 0) pe_int (fun _ _ => rfl)) pa_nil)))
      (pss_cons (ps_for pown rfl (pi_list (pe_slice sl_list (pv 0) (po_some pe_int) po_none)) (pg_name (i := 2) scCommas.nd rfl (Or.inl rfl))
        (pss_one (ps_set (i := 1) scCommas.nd rfl (Or.inl rfl) (pe_op op_cat (pe_op op_cat (pv 1) (pe_call GS hr rfl FS.m FS.F.kp FS.b .nil passes (pa_cons pe_str pa_nil))) (pv 2)))))
      (pss_one (ps_ret (pv 1)))), ?_⟩
    have big : (1000010 : Nat) ≤ sizeLine := by decide
    refine ⟨_, rfl, l, _, _, _, rfl, rfl, SqL.of hl, at_of (j := 0) rfl rfl, p0, _, rfl, .inl (SqL.of hp0), fun sl hsl => ?_⟩
    have s1 : Same H (L2.upd H sl (.lst (vI t))) := Same.upd hsl
    refine ⟨_, rfl, _, rfl, l, _, rfl, SqL.of (s1 _ _ hl), fun p2 hp2 => ?_⟩
    have s2 : Same H (L2.upd (L2.upd H sl (.lst (vI t))) p2 (.lst (cutV ((p0 :: pr).map V.ref) (some 1) none))) := s1.trans (Same.upd hp2)
    have hcut : cutV ((p0 :: pr).map V.ref) (some 1) none = pr.map V.ref := cut1 _ _
    rw [hcut] at s2
    rw [hcut]
    have n2 : p2 ≠ sl := fun z => by rw [z, upd_same] at hp2; cases hp2
    refine ⟨p2, rfl, ⟨_, SqL.of upd_same⟩, for_list (K := K) (a := p2) (xs := pr.map V.ref) (fun i σ H' => ∃ (sg : Addr) (v : Option V), σ = [some (.ref l), some (.ref sg), v] ∧ Same H H' ∧ H' p2 = some (.lst (pr.map V.ref)) ∧ H sg = none ∧ H' sg = some (.lst (vI (commaF t (ts.take i)))))
      ⟨sl, none, rfl, s2, upd_same, hsl, by rw [upd_ne (Ne.symm n2), upd_same]; rfl⟩ (fun i σ H' _ ⟨_, _, _, _, h2, _⟩ => SqL.of h2) ?_ ?_⟩
    · rintro i x σ H' hi ⟨sg, v, rfl, s3, h2, hg, hsg⟩
      rw [List.getElem?_map] at hi
      obtain ⟨b, hb, rfl⟩ : ∃ b, pr[i]? = some b ∧ x = V.ref b := by
        cases q : pr[i]? with
        | none => rw [q] at hi; cases hi
        | some b => rw [q] at hi; exact ⟨b, rfl, (Option.some.inj hi).symm⟩
      have il : i < ts.length := by rw [Paired.length hpr]; exact (List.getElem?_eq_some_iff.mp hb).1
      obtain ⟨u, hu⟩ : ∃ u, ts[i]? = some u := ⟨_, List.getElem?_eq_getElem il⟩
      obtain ⟨b', hb', hnb⟩ := paired_get hpr hu
      rw [hb] at hb'
      cases hb'
      have step : commaF t (ts.take (i + 1)) = commaF t (ts.take i) ++ Vbdeaa.text ", " ++ u := by
        rw [List.take_succ, hu]
        unfold commaF
        rw [List.foldl_append]
        rfl
      have bnd : (commaF t (ts.take (i + 1))).length ≤ 1000000 := by
        refine Nat.le_trans ?_ hlen
        rw [← commaF_eq]
        have e : commaF t ts = commaF (commaF t (ts.take (i + 1))) (ts.drop (i + 1)) := by
          unfold commaF
          rw [← List.foldl_append, List.take_append_drop]
        rw [e]
        exact commaF_len _ _
      rw [step, List.length_append, List.length_append] at bnd
      refine ⟨_, rfl, _, rfl, by decide +kernel, fun lc H2 hlc s4 hlc2 => ?_⟩
      rw [ordL_ofString] at hlc2
      have hsg2 := s4 _ _ hsg
      refine ⟨sg, lc, _, _, rfl, rfl, hsg2, hlc2, ?_, fun q hq => ?_⟩
      · unfold vI
        rw [List.length_map, List.length_map]
        omega
      have s5 : Same H' (L2.upd H2 q (.lst (vI (commaF t (ts.take i)) ++ vI (Vbdeaa.text ", ")))) := s4.trans (Same.upd hq)
      refine ⟨_, rfl, q, b, _, _, rfl, rfl, upd_same, s5 _ _ (s3 _ _ hnb), ?_, fun q2 hq2 => ?_⟩
      · unfold vI
        rw [List.length_append, List.length_map, List.length_map, List.length_map]
        omega
      have s6 := s5.trans (Same.upd (o := .lst (vI (commaF t (ts.take i)) ++ vI (Vbdeaa.text ", ") ++ vI u)) hq2)
      refine ⟨q2, _, rfl, s3.trans s6, s6 _ _ h2, (s3.trans s5).free hq2, ?_⟩
      rw [upd_same, step, vI_append, vI_append]
    · rintro σ H' ⟨sg, v, rfl, s3, h2, hg, hsg⟩
      rw [List.length_map, ← Paired.length hpr, List.take_length, commaF_eq] at hsg
      exact ⟨_, rfl, k sg H' hg s3 hsg⟩
end
end SB
end
section
set_option Elab.async false
set_option maxRecDepth 100000
set_option maxHeartbeats 4000000
set_option linter.all false
namespace SB
open PySem PySem.Spec PyProof.Rows L2 XL
open Vbdeaa (Text Exp Exps Un Bin)
def okN (n : Text) : Prop := n.length ≤ 24 ∧ ∀ c ∈ n, 0 ≤ c
def okHead : Exp → Prop
  | .num q => okQ q
  | .name n => okN n
  | .use n l => okN n ∧ exL l ≠ []
  | .best _ l => exL l ≠ []
  | _ => True
inductive GoodE : Exp → Prop
  | mk {e : Exp} : okHead e → (∀ k ∈ kids e, GoodE k) → GoodE e
theorem GoodE.head {e : Exp} (h : GoodE e) : okHead e := by cases h; assumption
theorem GoodE.kid {e k : Exp} (h : GoodE e) (hk : k ∈ kids e) : GoodE k := by
  cases h with
  | mk _ h2 => exact h2 k hk
def closedP (e p : Exp) (i : Nat) : Text := if wantsB e p i = true then 40 :: (p.shown ++ [41]) else p.shown
theorem closed_eq {e p : Exp} {i need : Nat} (h : tabN PLACEL 0 e.level i = (need : Nat)) : Vbdeaa.closed p.level need p.shown = closedP e p i := by
  unfold Vbdeaa.closed closedP wantsB
  rw [h]
  by_cases q : p.level < need
  · rw [if_pos q, if_pos (decide_eq_true (by omega))]
  · rw [if_neg q, if_neg (by rw [decide_eq_false (by omega)]; decide)]
theorem closed_zero {e p : Exp} {i : Nat} (h : tabN PLACEL 0 e.level i = 0) : closedP e p i = p.shown := by
  unfold closedP wantsB
  rw [h, if_neg (by rw [decide_eq_false (by omega)]; decide)]
theorem exs_shown : ∀ l : Exps, l.shown = commaT ((exL l).map Exp.shown)
  | .nil => rfl
  | .cons e .nil => rfl
  | .cons e (.cons f l) => by
    show e.shown ++ (Vbdeaa.text ", " ++ Exps.shown (.cons f l)) = e.shown ++ (Vbdeaa.text ", " ++ commaT ((exL (.cons f l)).map Exp.shown))
    rw [exs_shown (.cons f l)]
theorem commaT_mem {t : Text} : ∀ {ts : List Text}, t ∈ ts → t.length ≤ (commaT ts).length
  | [a], h => by
    rcases List.mem_cons.mp h with h | h
    · rw [h]; exact Nat.le_refl _
    · cases h
  | a :: b :: r, h => by
    show _ ≤ (a ++ (Vbdeaa.text ", " ++ commaT (b :: r))).length
    rw [List.length_append, List.length_append]
    rcases List.mem_cons.mp h with h | h
    · rw [h]; omega
    · have := commaT_mem h; omega
theorem closed_le (lev need : Nat) (t : Text) : t.length ≤ (Vbdeaa.closed lev need t).length := by
  unfold Vbdeaa.closed
  split
  · rw [List.length_cons, List.length_append]; omega
  · exact Nat.le_refl _
theorem shown_kid {e k : Exp} (h : k ∈ kids e) : k.shown.length ≤ e.shown.length := by
  have ex : ∀ (l : Exps), k ∈ exL l → k.shown.length ≤ l.shown.length := fun l hl => by
    rw [exs_shown]
    exact commaT_mem (List.mem_map.mpr ⟨k, hl, rfl⟩)
  cases e with
  | num q => cases h
  | name n => cases h
  | un o a =>
    simp only [kids, List.mem_cons, List.not_mem_nil, or_false] at h
    subst h
    have c1 := closed_le k.level 7 k.shown
    have c2 := closed_le k.level 3 k.shown
    cases o <;> simp only [Exp.shown, List.length_cons, List.length_append] <;> omega
  | bin o a b =>
    simp only [kids, List.mem_cons, List.not_mem_nil, or_false] at h
    have c1 := closed_le a.level (Vbdeaa.binNeeds o).1 a.shown
    have c2 := closed_le b.level (Vbdeaa.binNeeds o).2 b.shown
    simp only [Exp.shown, List.length_cons, List.length_append]
    rcases h with h | h <;> subst h <;> omega
  | and a b =>
    simp only [kids, List.mem_cons, List.not_mem_nil, or_false] at h
    have c1 := closed_le a.level 2 a.shown
    have c2 := closed_le b.level 3 b.shown
    simp only [Exp.shown, List.length_cons, List.length_append]
    rcases h with h | h <;> subst h <;> omega
  | or a b =>
    simp only [kids, List.mem_cons, List.not_mem_nil, or_false] at h
    have c1 := closed_le a.level 1 a.shown
    have c2 := closed_le b.level 2 b.shown
    simp only [Exp.shown, List.length_cons, List.length_append]
    rcases h with h | h <;> subst h <;> omega
  | cond c a b =>
    simp only [kids, List.mem_cons, List.not_mem_nil, or_false] at h
    simp only [Exp.shown, List.length_cons, List.length_append]
    rcases h with h | h | h <;> subst h <;> omega
  | best g l =>
    have := ex l h
    simp only [Exp.shown, List.length_cons, List.length_append]
    omega
  | use n l =>
    have := ex l h
    simp only [Exp.shown, List.length_cons, List.length_append]
    omega
def partTs (e : Exp) : List Text := (kids e).zipIdx.map fun p => closedP e p.1 p.2
theorem partTs_at {e p : Exp} {i : Nat} (h : (kids e)[i]? = some p) : (partTs e)[i]? = some (closedP e p i) := by
  unfold partTs
  rw [List.getElem?_map, List.getElem?_zipIdx, h]
  simp
def spPart (C : Addr) (n : Nat) : Sp := fun vs H Q _ => ∃ (a : Addr) (e p : Exp) (i : Nat), vs = [.ref a, .int i] ∧ NodeAt C H e a ∧ (kids e)[i]? = some p ∧ GoodE p ∧ p.height ≤ n ∧ p.shown.length ≤ 1000000 ∧ NewL H Q (vI (closedP e p i))
def spPrinted (C : Addr) (n : Nat) : Sp := fun vs H Q _ => ∃ (a : Addr) (e : Exp), vs = [.ref a] ∧ NodeAt C H e a ∧ GoodE e ∧ e.height ≤ n ∧ e.shown.length ≤ 1000000 ∧ NewL H Q (vI e.shown)
abbrev sPrinted : Stmt := top 48
abbrev sPart : Stmt := top 49
section
variable {P : Program} {w : World} {K : PySem.W.Frag} {mg : Str → Option Value} {base : Heap}
theorem passE0 {X : Cx} : Passes (CXr X.prog X.w) X E0 := fun pins σ H s v s' I h => by
  obtain ⟨_, _, _, _, _, _, _, _, _, _, z⟩ := h
  exact False.elim z
theorem scPart : FnScope ["node", "position", "signs"] ["node", "position"] (defScope sPart) := ⟨rfl, rfl, rfl, by decide +kernel, rfl, by decide +kernel, by decide +kernel⟩
theorem ok_part {f C fR fW : Addr} {fd fdR fdW : FuncData} {n m : Nat} (F : Fn K mg "printed_part" sPart f fd ["node", "position"]) (FR : Fn K mg "printed" sPrinted fR fdR ["node"]) (FW : Fn K mg "wants_brackets" sWants fW fdW ["node", "position"]) (N : NodeC K C) (T : CP K mg)
    (GR : FnOk P w K mg base (CXr P w) m fR fdR ["node"] (spPrinted C n)) (GW : FnOk P w K mg base (CXr P w) 2 fW fdW ["node", "position"] (spWants C)) (hm : 2 ≤ m) : FnOk P w K mg base (CXr P w) (m + 1) f fd ["node", "position"] (spPart C n) := by
  refine okX F.F scPart (fun vs H Q E h => ?_) (fun cdv A outer s H vs Q E hr h => ?_)
  · obtain ⟨_, _, _, _, rfl, _⟩ := h
    rfl
  · obtain ⟨a, e, p, i, rfl, hn, hi, hg, hh, hs, k⟩ := h
    obtain ⟨dx, D, l, as, h1, hD, hl, hp⟩ := node_of hn
    obtain ⟨b, hb, hnb⟩ := paired_get hp hi
    have hr2 : Room 2 _ := hr.mono hm
    refine ⟨_, pss_cons (ps_set (i := 2) scPart.nd rfl (Or.inl rfl) (pe_call GR hr rfl FR.m FR.F.kp FR.b .nil passes (pa_cons (pe_ix ix_list (pe_fld (pv 0) rfl) (pv 1) (fun _ _ => rfl)) pa_nil)))
      (pss_cons (ps_if (pt_val (pe_call GW hr2 rfl FW.m FW.F.kp FW.b .nil passes (pa_cons (pv 0) (pa_cons (pv 1) pa_nil))))
        (pss_one (ps_ret (pe_op op_cat (pe_op op_cat (pe_lst (pa_cons (pe_gi rfl T.OP) pa_nil)) (pv 2)) (pe_lst (pa_cons (pe_gi rfl T.CL) pa_nil))))) pss_nil)
      (pss_one (ps_ret (pv 2)))), ?_⟩
    have big : (1000010 : Nat) ≤ sizeLine := by decide
    refine ⟨_, rfl, a, C, dx, _, _, rfl, h1, N.cl, N.nP, rfl, _, rfl, l, _, _, _, rfl, rfl, SqL.of hl, atI_nat (by rw [List.getElem?_map, hb]; rfl), b, p, rfl, hnb, hg, hh, hs, fun sg H1 hsg s1 hsg1 => ?_⟩
    refine ⟨_, rfl, _, rfl, a, e, p, i, rfl, hn.same s1, hi, _, rfl, ?_⟩
    unfold closedP at k
    cases hw : wantsB e p i with
    | true =>
      rw [hw, if_pos rfl] at k
      refine iteT ⟨by decide, fun l1 hl1 => ?_⟩
      have s2 := s1.trans (Same.upd (o := .lst [.int 40]) hl1)
      have n1 : sg ≠ l1 := ne_of_none hsg1 hl1
      refine ⟨_, rfl, l1, sg, _, _, rfl, rfl, upd_same, by rw [upd_ne n1]; exact hsg1, ?_, fun l2 hl2 => ?_⟩
      · unfold vI; rw [List.length_map]; show 1 + _ ≤ sizeLine; omega
      have s3 := s2.trans (Same.upd (o := .lst ([.int 40] ++ vI p.shown)) hl2)
      refine ⟨by decide, fun l3 hl3 => ?_⟩
      have s4 := s3.trans (Same.upd (o := .lst [.int 41]) hl3)
      have n3 : l2 ≠ l3 := fun z => by rw [← z, upd_same] at hl3; cases hl3
      refine ⟨l2, l3, _, _, rfl, rfl, by rw [upd_ne n3]; exact upd_same, upd_same, ?_, fun l4 hl4 => ?_⟩
      · unfold vI; rw [List.length_append, List.length_map]; show 1 + _ + 1 ≤ sizeLine; omega
      refine k l4 _ (s4.free hl4) (s4.trans (Same.upd hl4)) ?_
      rw [upd_same]
      show _ = some (HO.lst (vI ([40] ++ (p.shown ++ [41]))))
      rw [vI_append, vI_append, List.append_assoc]
      rfl
    | false =>
      rw [hw, if_neg (by decide)] at k
      exact iteF ⟨_, rfl, k sg H1 hsg s1 hsg1⟩
end
end SB
end
section
set_option Elab.async false
set_option maxRecDepth 100000
set_option maxHeartbeats 4000000
set_option linter.all false
namespace SB
open PySem PySem.Spec PyProof.Rows L2 XL
open Vbdeaa (Text Exp Exps Un Bin)
theorem cat_ok {H : Hp} {a b : Addr} {t u : Text} {Q : VK} (ha : H a = some (.lst (vI t))) (hb : H b = some (.lst (vI u))) (hl : (t ++ u).length ≤ 1000010) (k : NewL H Q (vI (t ++ u))) : rCat (.ref a) (.ref b) H Q := by
  refine ⟨a, b, _, _, rfl, rfl, ha, hb, ?_, fun p hp => k p _ hp (Same.upd hp) ?_⟩
  · unfold vI
    rw [List.length_map, List.length_map, ← List.length_append]
    exact Nat.le_trans hl (by decide)
  · rw [upd_same, vI_append]
theorem NewL.mono {H H1 : Hp} {Q : VK} {xs : List V} (s : Same H H1) (h : NewL H Q xs) : NewL H1 Q xs := fun l H' hl s' e => h l H' (s.free hl) (s.trans s') e
theorem shown_cond (c a b : Exp) : (Exp.cond c a b).shown = Vbdeaa.text "if " ++ closedP (.cond c a b) c 0 ++ Vbdeaa.text " then " ++ closedP (.cond c a b) a 1 ++ Vbdeaa.text " else " ++ closedP (.cond c a b) b 2 := by
  rw [closed_zero (e := .cond c a b) (p := c) (i := 0) rfl, closed_zero (e := .cond c a b) (p := a) (i := 1) rfl, closed_zero (e := .cond c a b) (p := b) (i := 2) rfl]
  simp only [Exp.shown, List.append_assoc]
theorem shown_nine {e : Exp} (h9 : e.level = 9) (hk : kids e ≠ []) : ∃ wd : Text, e.shown = wd ++ [40] ++ commaT (partTs e) ++ [41] ∧
    ((∃ x : Str, ordL x = vI wd ∧ ((∃ o p, e = .un o p ∧ atI ONEW (unIx o) = some x) ∨ (∃ g l, e = .best g l ∧ x = (if g = true then "max" else "min")))) ∨ (∃ n l, e = .use n l ∧ wd = n)) := by
  have pts : partTs e = (kids e).map Exp.shown := by
    unfold partTs
    have : ∀ (l : List Exp) (j : Nat), (l.zipIdx j).map (fun p => closedP e p.1 p.2) = l.map Exp.shown := by
      intro l
      induction l with
      | nil => intro j; rfl
      | cons a r ih =>
        intro j
        rw [List.zipIdx_cons, List.map_cons, List.map_cons, ih]
        rw [closed_zero (by show tabN PLACEL 0 e.level j = 0; unfold tabN; rw [if_pos h9])]
    exact this (kids e) 0
  rw [pts]
  cases e with
  | num q => exact absurd rfl hk
  | name n => exact absurd rfl hk
  | un o p =>
    cases o with
    | neg => cases h9
    | not => cases h9
    | floor => exact ⟨Vbdeaa.text "floor", by simp [Exp.shown, kids, commaT, Vbdeaa.unWord], .inl ⟨"floor", ordL_ofString _, .inl ⟨_, _, rfl, rfl⟩⟩⟩
    | ceil => exact ⟨Vbdeaa.text "ceil", by simp [Exp.shown, kids, commaT, Vbdeaa.unWord], .inl ⟨"ceil", ordL_ofString _, .inl ⟨_, _, rfl, rfl⟩⟩⟩
    | abs => exact ⟨Vbdeaa.text "abs", by simp [Exp.shown, kids, commaT, Vbdeaa.unWord], .inl ⟨"abs", ordL_ofString _, .inl ⟨_, _, rfl, rfl⟩⟩⟩
    | sign => exact ⟨Vbdeaa.text "sign", by simp [Exp.shown, kids, commaT, Vbdeaa.unWord], .inl ⟨"sign", ordL_ofString _, .inl ⟨_, _, rfl, rfl⟩⟩⟩
    | num => exact ⟨Vbdeaa.text "num", by simp [Exp.shown, kids, commaT, Vbdeaa.unWord], .inl ⟨"num", ordL_ofString _, .inl ⟨_, _, rfl, rfl⟩⟩⟩
    | den => exact ⟨Vbdeaa.text "den", by simp [Exp.shown, kids, commaT, Vbdeaa.unWord], .inl ⟨"den", ordL_ofString _, .inl ⟨_, _, rfl, rfl⟩⟩⟩
  | bin o p q => cases o <;> cases h9
  | and p q => cases h9
  | or p q => cases h9
  | cond c p q => cases h9
  | best g l => cases g with
    | true => exact ⟨Vbdeaa.text "max", by simp only [Exp.shown, kids, exs_shown, if_true]; rw [show Vbdeaa.text "max(" = Vbdeaa.text "max" ++ [40] by decide +kernel]; simp only [List.append_assoc], .inl ⟨"max", ordL_ofString _, .inr ⟨_, _, rfl, rfl⟩⟩⟩
    | false => exact ⟨Vbdeaa.text "min", by simp only [Exp.shown, kids, exs_shown]; rw [show (Vbdeaa.text (if false = true then "max(" else "min(")) = Vbdeaa.text "min" ++ [40] by decide +kernel]; simp only [List.append_assoc], .inl ⟨"min", ordL_ofString _, .inr ⟨_, _, rfl, rfl⟩⟩⟩
  | use n l => exact ⟨n, by simp only [Exp.shown, kids, exs_shown]; simp, .inr ⟨_, _, rfl, rfl⟩⟩
end SB
end
section
set_option Elab.async false
set_option maxRecDepth 100000
set_option maxHeartbeats 4000000
set_option linter.all false
namespace SB
open PySem PySem.Spec PyProof.Rows L2 XL
open Vbdeaa (Text Exp Exps Un Bin)
theorem vint_inj {a b : Int} (h : V.int a = V.int b) : a = b := by injection h
theorem paired_append {α β : Type} {F : α → β → Prop} : ∀ {l : List α} {m : List β} {a : α} {b : β}, Paired F l m → F a b → Paired F (l ++ [a]) (m ++ [b])
  | _, _, _, _, .nil, h => .cons h .nil
  | _, _, _, _, .cons r t, h => .cons r (paired_append t h)
theorem partTs_length (e : Exp) : (partTs e).length = (kids e).length := by
  unfold partTs
  rw [List.length_map, List.length_zipIdx]
structure FP (K : PySem.W.Frag) (mg : Str → Option Value) (fK fN fS fW fB fJ fC : Addr) (dK dN dS dW dB dJ dC : FuncData) : Prop where
  kind : Fn K mg "kind_of" sKind fK dK ["form", "detail"]
  num : Fn K mg "printed_number" sPNum fN dN ["pair"]
  signs : Fn K mg "signs_of" sSigns fS dS ["text"]
  word : Fn K mg "word_of" sWord fW dW ["node"]
  before : Fn K mg "printed_before" sBefore fB dB ["detail"]
  join : Fn K mg "joining_signs" sJoin fJ dJ ["node"]
  commas : Fn K mg "with_commas" sCommas fC dC ["parts"]
theorem kids_small {e : Exp} (h : e.shown.length ≤ 1000000) : (kids e).length ≤ 1000000 := by
  have cl : ∀ ts : List Text, ts.length ≤ (commaT ts).length + 1 := by
    intro ts
    induction ts with
    | nil => exact Nat.zero_le _
    | cons t r ih =>
      cases r with
      | nil => simp
      | cons u r =>
        show _ ≤ (t ++ (Vbdeaa.text ", " ++ commaT (u :: r))).length + 1
        rw [List.length_append, List.length_append, show (Vbdeaa.text ", ").length = 2 by decide +kernel]
        rw [List.length_cons]
        omega
  cases e with
  | best g l =>
    have := cl ((exL l).map Exp.shown)
    rw [List.length_map] at this
    simp only [Exp.shown, List.length_append, exs_shown, List.length_cons] at h
    show (exL l).length ≤ _
    omega
  | use n l =>
    have := cl ((exL l).map Exp.shown)
    rw [List.length_map] at this
    simp only [Exp.shown, List.length_append, exs_shown, List.length_cons] at h
    show (exL l).length ≤ _
    omega
  | _ => simp [kids]
section
variable {P : Program} {w : World} {K : PySem.W.Frag} {mg : Str → Option Value} {base : Heap}
theorem scPrinted : FnScope ["node", "parts", "position"] ["node"] (defScope sPrinted) := ⟨rfl, rfl, rfl, by decide +kernel, rfl, by decide +kernel, by decide +kernel⟩
theorem ok_printed0 {f C : Addr} {fd : FuncData} {k : Nat} (F : Fn K mg "printed" sPrinted f fd ["node"]) : FnOk P w K mg base (CXr P w) (k + 1) f fd ["node"] (spPrinted C 0) := by
  refine okX F.F scPrinted (fun vs H Q E h => ?_) (fun cdv A outer s H vs Q E hr h => ?_)
  · obtain ⟨_, _, rfl, _⟩ := h
    rfl
  · obtain ⟨a, e, rfl, hn, hg, hh, k⟩ := h
    have : 0 < e.height := by rw [height_eq]; omega
    omega
theorem ok_printedS {f C fP fK fN fS fW fB fJ fC : Addr} {fd fdP dK dN dS dW dB dJ dC : FuncData} {n m : Nat} (F : Fn K mg "printed" sPrinted f fd ["node"]) (FPt : Fn K mg "printed_part" sPart fP fdP ["node", "position"]) (FF : FP K mg fK fN fS fW fB fJ fC dK dN dS dW dB dJ dC) (N : NodeC K C) (T : CP K mg) (TC : CN K mg) (hord : mg "ord" = none)
    (GP : FnOk P w K mg base (CXr P w) m fP fdP ["node", "position"] (spPart C n)) (hm : 2 ≤ m) : FnOk P w K mg base (CXr P w) (m + 1) f fd ["node"] (spPrinted C (n + 1)) := by
  have GK : FnOk P w K mg base (CXr P w) 1 fK dK _ _ := ok_kind FF.kind TC
  have GN : FnOk P w K mg base (CXr P w) 2 fN dN _ _ := ok_pnum FF.num FF.signs T hord
  have GS : FnOk P w K mg base (CXr P w) 1 fS dS _ _ := ok_signs FF.signs hord
  have GW : FnOk P w K mg base (CXr P w) 1 fW dW _ _ := ok_word FF.word N T TC
  have GB : FnOk P w K mg base (CXr P w) 2 fB dB _ _ := ok_before FF.before FF.signs T hord
  have GJ : FnOk P w K mg base (CXr P w) 2 fJ dJ _ _ := ok_join FF.join FF.signs N T TC hord
  have GC : FnOk P w K mg base (CXr P w) 2 fC dC _ _ := ok_commas FF.commas FF.signs T hord
  refine okX F.F scPrinted (fun vs H Q E h => ?_) (fun cdv A outer s H vs Q E hr h => ?_)
  · obtain ⟨_, _, rfl, _⟩ := h
    rfl
  · obtain ⟨a, e, rfl, hn, hg, hh, hs, k⟩ := h
    obtain ⟨dx, D, l, as, h1, hD, hl, hp⟩ := node_of hn
    have hr1 : Room 1 _ := hr.mono (by omega)
    have hr2 : Room 2 _ := hr.mono hm
    refine ⟨_, pss_cons (ps_if (pt_cmpR op_eq (pe_fld (pv 0) rfl) (pe_gi rfl T.NUMBER) (nomark _)) (pss_one (ps_ret (pe_call GN hr2 rfl FF.num.m FF.num.F.kp FF.num.b .nil passes (pa_cons (pe_fld (pv 0) rfl) pa_nil)))) pss_nil)
      (pss_cons (ps_if (pt_cmpR op_eq (pe_fld (pv 0) rfl) (pe_gi rfl T.NAME) (nomark _)) (pss_one (ps_ret (pe_call GS hr1 rfl FF.signs.m FF.signs.F.kp FF.signs.b .nil passes (pa_cons (pe_fld (pv 0) rfl) pa_nil)))) pss_nil)
      (pss_cons (ps_setLc (i := 1) (own := [("position", 2)]) (te := tCall (spPart C n) [] E0 (tCons (tVar 0) (tCons (tVar 2) tNil))) rfl scPrinted.nd rfl rfl (sw_true rfl rfl rfl rfl)
          (pi_range1 rfl T.range (pa_cons (pe_callB call_len_seq (by rfl) T.len (by decide +kernel) (pa_cons (pe_fld (pv 0) rfl) pa_nil)) pa_nil)) (blkOk_by (by kernel_rfl))
          (fun _ _ _ _ _ => by exact pg_name (i := 2) scPrinted.nd rfl (Or.inl rfl)) (fun _ _ _ _ _ => by exact pts_nil)
          (fun _ _ _ _ _ => by exact pe_call GP hr rfl FPt.m FPt.F.kp FPt.b .nil passE0 (pa_cons (pv 0) (pa_cons (pv 2) pa_nil))))
      (pss_cons (ps_if (pt_cmpR op_eq (pe_fld (pv 0) rfl) (pe_gi rfl TC.IF) (nomark _)) (pss_one (ps_ret (pe_op op_cat (pe_op op_cat (pe_op op_cat (pe_op op_cat (pe_op op_cat
          (pe_call GS hr1 rfl FF.signs.m FF.signs.F.kp FF.signs.b .nil passes (pa_cons pe_str pa_nil)) (pe_ix ix_list (pv 1) pe_int (fun _ _ => rfl)))
          (pe_call GS hr1 rfl FF.signs.m FF.signs.F.kp FF.signs.b .nil passes (pa_cons pe_str pa_nil))) (pe_ix ix_list (pv 1) pe_int (fun _ _ => rfl)))
          (pe_call GS hr1 rfl FF.signs.m FF.signs.F.kp FF.signs.b .nil passes (pa_cons pe_str pa_nil))) (pe_ix ix_list (pv 1) pe_int (fun _ _ => rfl))))) pss_nil)
      (pss_cons (ps_if (pt_cmpR op_eq (pe_call GK hr1 rfl FF.kind.m FF.kind.F.kp FF.kind.b .nil passes (pa_cons (pe_fld (pv 0) rfl) (pa_cons (pe_fld (pv 0) rfl) pa_nil))) (pe_gi rfl TC.STR) (nomark _))
          (pss_one (ps_ret (pe_op op_cat (pe_op op_cat (pe_op op_cat (pe_call GS hr1 rfl FF.signs.m FF.signs.F.kp FF.signs.b .nil passes (pa_cons (pe_call GW hr1 rfl FF.word.m FF.word.F.kp FF.word.b .nil passes (pa_cons (pv 0) pa_nil)) pa_nil)) (pe_lst (pa_cons (pe_gi rfl T.OP) pa_nil)))
            (pe_call GC hr2 rfl FF.commas.m FF.commas.F.kp FF.commas.b .nil passes (pa_cons (pv 1) pa_nil))) (pe_lst (pa_cons (pe_gi rfl T.CL) pa_nil))))) pss_nil)
      (pss_cons (ps_if (pt_cmpR op_eq (pe_fld (pv 0) rfl) (pe_gi rfl TC.ONE) (nomark _)) (pss_one (ps_ret (pe_op op_cat (pe_call GB hr2 rfl FF.before.m FF.before.F.kp FF.before.b .nil passes (pa_cons (pe_fld (pv 0) rfl) pa_nil)) (pe_ix ix_list (pv 1) pe_int (fun _ _ => rfl))))) pss_nil)
      (pss_one (ps_ret (pe_op op_cat (pe_op op_cat (pe_op op_cat (pe_op op_cat (pe_ix ix_list (pv 1) pe_int (fun _ _ => rfl)) (pe_lst (pa_cons (pe_gi rfl T.BL) pa_nil)))
          (pe_call GJ hr2 rfl FF.join.m FF.join.F.kp FF.join.b .nil passes (pa_cons (pv 0) pa_nil))) (pe_lst (pa_cons (pe_gi rfl T.BL) pa_nil))) (pe_ix ix_list (pv 1) pe_int (fun _ _ => rfl)))))))))), ?_⟩
    refine ⟨_, rfl, a, C, dx, _, _, rfl, h1, N.cl, N.nF, rfl, rfl, _, rfl, ?_⟩
    refine ite2 (fun hc => ?_) fun hc0 => ?_
    · have hf : formN e = 0 := vint_inj (of_decide_eq_true hc)
      cases e with
      | num q =>
        obtain ⟨t, rfl, ht⟩ := hD
        exact ⟨_, rfl, a, C, dx, _, _, rfl, h1, N.cl, N.nD, rfl, t, q, rfl, ht, hg.head, k⟩
      | _ => cases hf
    refine ⟨_, rfl, a, C, dx, _, _, rfl, h1, N.cl, N.nF, rfl, rfl, _, rfl, ite2 (fun hc => ?_) fun hc1 => ?_⟩
    · have hf : formN e = 1 := vint_inj (of_decide_eq_true hc)
      cases e with
      | name n =>
        obtain rfl : D = .str (txS n) := hD
        have hN : okN n := hg.head
        refine ⟨_, rfl, a, C, dx, _, _, rfl, h1, N.cl, N.nD, rfl, _, rfl, ?_, ?_⟩
        · show (txS n).length < 4000
          have := hN.1
          rw [TL.len_tl]
          unfold txS
          rw [TL.tl_mk, List.length_map]
          omega
        · rw [ordL_txS hN.2]
          exact k
      | _ => cases hf
    have hlen : as.length = (kids e).length := (Paired.length hp).symm
    have hks := kids_small hs
    have hj : ((as.map V.ref).length : Int).toNat = (kids e).length := by rw [List.length_map, hlen]; omega
    have hj2 : ((as.map V.ref).length : Int) < 2 ^ 62 := by rw [List.length_map, hlen]; omega
    refine ⟨_, rfl, a, C, dx, _, _, rfl, h1, N.cl, N.nP, rfl, l, _, rfl, .inl (SqL.of hl), _, rfl, by omega, hj2, fun L hL => ?_⟩
    rw [hj]
    refine lc_range (fun i H' => Same H H' ∧ ∃ ps : List Addr, H' L = some (.lst (ps.map V.ref)) ∧ Paired (fun t p => p ≠ L ∧ H' p = some (.lst (vI t))) ((partTs e).take i) ps) ⟨Same.upd hL, [], upd_same, .nil⟩ ?_ ?_
    · rintro i H' hi ⟨s1, ps, hL1, hps⟩
      obtain ⟨kd, hkd⟩ : ∃ kd, (kids e)[i]? = some kd := ⟨_, List.getElem?_eq_getElem hi⟩
      have hkm := List.mem_of_getElem? hkd
      have hlp : ps.length = i := by
        rw [← Paired.length hps, List.length_take, partTs_length]
        omega
      refine ⟨rfl, _, rfl, _, rfl, a, e, kd, i, by rw [Int.zero_add]; rfl, hn.same s1, hkd, hg.kid hkm, by have := kids_height hkm; omega, Nat.le_trans (shown_kid hkm) hs, fun pl H2 hpl s2 hpl2 => ⟨_, s2 _ _ hL1, ?_, ?_, ps ++ [pl], ?_, ?_⟩⟩
      · rw [List.length_map, hlp]
        exact Nat.lt_of_lt_of_le (by omega : i < 1000010) (by decide)
      · intro b o q
        rw [upd_ne (ne_of_none q hL)]
        exact s2 _ _ (s1 _ _ q)
      · rw [upd_same, List.map_append]
        rfl
      · rw [List.take_succ, partTs_at hkd]
        refine paired_append (paired_mem hps fun t p _ ⟨q1, q2⟩ => ⟨q1, by rw [upd_ne q1]; exact s2 _ _ q2⟩) ⟨?_, ?_⟩
        · intro z
          rw [z, hL1] at hpl
          cases hpl
        · rw [upd_ne (fun z => by rw [z, hL1] at hpl; cases hpl)]
          exact hpl2
    rintro H2 ⟨s1, ps, hL1, hps0⟩
    have hps : SgAt H2 (partTs e) ps := by
      rw [show (kids e).length = (partTs e).length by rw [partTs_length], List.take_length] at hps0
      exact paired_mem hps0 fun t p _ q => q.2
    have h2 := s1 _ _ h1
    refine ⟨_, rfl, a, C, dx, _, _, rfl, h2, N.cl, N.nF, rfl, rfl, _, rfl, ite2 (fun hc => ?_) fun hc6 => ?_⟩
    · have hf : formN e = 6 := vint_inj (of_decide_eq_true hc)
      cases e with
      | cond c p q =>
        rw [shown_cond] at k hs
        obtain ⟨p0, p1, p2, rfl, g0, g1, g2⟩ : ∃ p0 p1 p2, ps = [p0, p1, p2] ∧ H2 p0 = some (.lst (vI (closedP (.cond c p q) c 0))) ∧ H2 p1 = some (.lst (vI (closedP (.cond c p q) p 1))) ∧ H2 p2 = some (.lst (vI (closedP (.cond c p q) q 2))) := by
          cases hps with
          | cons a0 b0 => cases b0 with
            | cons a1 b1 => cases b1 with
              | cons a2 b2 => cases b2; exact ⟨_, _, _, rfl, a0, a1, a2⟩
        generalize closedP (.cond c p q) c 0 = t0 at *
        generalize closedP (.cond c p q) p 1 = t1 at *
        generalize closedP (.cond c p q) q 2 = t2 at *
        simp only [List.length_append] at hs
        refine ⟨_, rfl, by decide +kernel, fun l1 H3 _ s3 e3 => ?_⟩
        rw [ordL_ofString] at e3
        refine ⟨_, rfl, L, _, _, _, rfl, rfl, SqL.of (s3 _ _ hL1), at_of (j := 0) rfl rfl, cat_ok e3 (s3 _ _ g0) (by simp only [List.length_append]; omega) fun l2 H4 _ s4 e4 => ?_⟩
        have s34 := s3.trans s4
        refine ⟨_, rfl, by decide +kernel, fun l3 H5 _ s5 e5 => ?_⟩
        rw [ordL_ofString] at e5
        have s35 := s34.trans s5
        refine cat_ok (s5 _ _ e4) e5 (by simp only [List.length_append]; omega) fun l4 H6 _ s6 e6 => ?_
        have s36 := s35.trans s6
        refine ⟨_, rfl, L, _, _, _, rfl, rfl, SqL.of (s36 _ _ hL1), at_of (j := 1) rfl rfl, cat_ok e6 (s36 _ _ g1) (by simp only [List.length_append]; omega) fun l5 H7 _ s7 e7 => ?_⟩
        have s37 := s36.trans s7
        refine ⟨_, rfl, by decide +kernel, fun l6 H8 _ s8 e8 => ?_⟩
        rw [ordL_ofString] at e8
        have s38 := s37.trans s8
        refine cat_ok (s8 _ _ e7) e8 (by simp only [List.length_append]; omega) fun l7 H9 _ s9 e9 => ?_
        have s39 := s38.trans s9
        exact ⟨_, rfl, L, _, _, _, rfl, rfl, SqL.of (s39 _ _ hL1), at_of (j := 2) rfl rfl, cat_ok e9 (s39 _ _ g2) (by simp only [List.length_append]; omega) (k.mono (s1.trans s39))⟩
      | _ => cases hf
    have hD2 : DetOk H2 e D := detOk_same (fun b xs q => s1 b _ q) hD
    have hn2 := hn.same s1
    refine ⟨_, rfl, a, C, dx, _, _, rfl, h2, N.cl, N.nF, rfl, _, rfl, a, C, dx, _, _, rfl, h2, N.cl, N.nD, rfl, _, _, _, rfl, kind_exp hD, rfl, _, rfl, ite2 (fun hc => ?_) fun hc9 => ?_⟩
    · have h9 : e.level = 9 := by
        have := vint_inj (of_decide_eq_true hc)
        omega
      have hk : kids e ≠ [] := by
        have hh := hg.head
        cases e with
        | num q => exact absurd (by rfl) hc0
        | name n => exact absurd (by rfl) hc1
        | best g l => exact hh
        | use n l => exact hh.2
        | _ => exact List.cons_ne_nil _ _
      obtain ⟨wd, hsh, hw⟩ := shown_nine h9 hk
      rw [hsh] at k hs
      obtain ⟨x, hxw, hxo, hxl⟩ : ∃ x : Str, ordL x = vI wd ∧ ((∃ o p, e = .un o p ∧ atI ONEW (unIx o) = some x) ∨ (∃ g l, e = .best g l ∧ x = (if g = true then "max" else "min")) ∨ (∃ n l, e = .use n l ∧ x = txS n)) ∧ x.length < 4000 := by
        rcases hw with ⟨x, hx, hxx⟩ | ⟨n, l, rfl, rfl⟩
        · refine ⟨x, hx, ?_, ?_⟩
          · rcases hxx with hxx | hxx
            · exact .inl hxx
            · exact .inr (.inl hxx)
          · rcases hxx with ⟨o, p, rfl, hx2⟩ | ⟨g, l, rfl, rfl⟩
            · have : ∀ y ∈ ONEW, y.length < 4000 := by decide +kernel
              refine this x ?_
              unfold atI at hx2
              cases q : ixN ONEW.length (unIx o : Int) with
              | none => rw [q] at hx2; cases hx2
              | some j => rw [q] at hx2; exact List.mem_of_getElem? hx2
            · cases g <;> decide +kernel
        · have hN : okN _ := hg.head.1
          refine ⟨txS wd, ordL_txS hN.2, .inr (.inr ⟨_, _, rfl, rfl⟩), ?_⟩
          have := hN.1
          rw [TL.len_tl]
          unfold txS
          rw [TL.tl_mk, List.length_map]
          omega
      simp only [List.length_append, List.length_cons, List.length_nil] at hs
      obtain ⟨t0, tr, hts⟩ : ∃ t0 tr, partTs e = t0 :: tr := by
        cases q : partTs e with
        | nil =>
          have := partTs_length e
          rw [q] at this
          exact absurd (List.length_eq_zero_iff.mp this.symm) hk
        | cons t0 tr => exact ⟨_, _, rfl⟩
      rw [hts] at hps k hs
      refine ⟨_, rfl, a, e, x, rfl, hn2, hxo, _, rfl, hxl, fun l1 H3 _ s3 e3 => ?_⟩
      rw [hxw] at e3
      refine ⟨by decide, fun l2 hl2 => ?_⟩
      have s4 := s3.trans (Same.upd (o := .lst [.int 40]) hl2)
      refine cat_ok (u := [40]) ((Same.upd (o := .lst [.int 40]) hl2) _ _ e3) upd_same (by simp only [List.length_append, List.length_cons, List.length_nil]; omega) fun l3 H5 _ s5 e5 => ?_
      have s6 := s4.trans s5
      refine ⟨_, rfl, L, ps, t0, tr, rfl, s6 _ _ hL1, sg_same s6 hps, by omega, fun l4 H6 _ s7 e7 => ?_⟩
      refine cat_ok (s7 _ _ e5) e7 (by simp only [List.length_append, List.length_cons, List.length_nil]; omega) fun l5 H7 _ s8 e8 => ?_
      have s9 := (s6.trans s7).trans s8
      refine ⟨by decide, fun l6 hl6 => ?_⟩
      have s10 := s9.trans (Same.upd (o := .lst [.int 41]) hl6)
      exact cat_ok (u := [41]) ((Same.upd (o := .lst [.int 41]) hl6) _ _ e8) upd_same (by simp only [List.length_append, List.length_cons, List.length_nil]; omega) (k.mono (s1.trans s10))
    refine ⟨_, rfl, a, C, dx, _, _, rfl, h2, N.cl, N.nF, rfl, rfl, _, rfl, ite2 (fun hc => ?_) fun hc2 => ?_⟩
    · have hf : formN e = 2 := vint_inj (of_decide_eq_true hc)
      cases e with
      | un o p =>
        obtain rfl : D = .int (unIx o) := hD
        obtain ⟨p0, rfl, g0⟩ : ∃ p0, ps = [p0] ∧ H2 p0 = some (.lst (vI (closedP (.un o p) p 0))) := by
          cases hps with
          | cons a0 b0 => cases b0; exact ⟨_, rfl, a0⟩
        obtain ⟨x, wd, hx, hxw, hxs⟩ : ∃ (x : Str) (wd : Text), atI ONEW (unIx o) = some x ∧ ordL (if x = "not" then x ++ (" " : Str) else x) = vI wd ∧ (Exp.un o p).shown = wd ++ closedP (.un o p) p 0 := by
          cases o with
          | neg => exact ⟨"-", Vbdeaa.text "-", rfl, by rw [if_neg (by decide +kernel), ordL_ofString], by rw [← closed_eq (e := .un .neg p) (p := p) (i := 0) (need := 7) rfl]; rfl⟩
          | not => exact ⟨"not", Vbdeaa.text "not ", rfl, by rw [if_pos rfl, ordL_append, ordL_ofString, ordL_ofString, ← vI_append]; rfl, by rw [← closed_eq (e := .un .not p) (p := p) (i := 0) (need := 3) rfl]; rfl⟩
          | _ => exact absurd (by rfl) hc9
        rw [hxs] at k hs
        generalize closedP (.un o p) p 0 = t0 at *
        refine ⟨_, rfl, a, C, dx, _, _, rfl, h2, N.cl, N.nD, rfl, _, x, rfl, hx, fun l1 H3 _ s3 e3 => ?_⟩
        rw [hxw] at e3
        exact ⟨_, rfl, L, _, _, _, rfl, rfl, SqL.of (s3 _ _ hL1), at_of (j := 0) rfl rfl, cat_ok e3 (s3 _ _ g0) (by omega) (k.mono (s1.trans s3))⟩
      | _ => cases hf
    · obtain ⟨hf, t0, t1, p0, p1, rfl, g0, g1, hsh⟩ : (formN e = 3 ∨ formN e = 4 ∨ formN e = 5) ∧ ∃ t0 t1 p0 p1, ps = [p0, p1] ∧ H2 p0 = some (.lst (vI t0)) ∧ H2 p1 = some (.lst (vI t1)) ∧ e.shown = t0 ++ [32] ++ joinT e ++ [32] ++ t1 := by
        have two : ∀ {t0 t1 : Text}, SgAt H2 [t0, t1] ps → ∃ p0 p1, ps = [p0, p1] ∧ H2 p0 = some (.lst (vI t0)) ∧ H2 p1 = some (.lst (vI t1)) := fun h => by
          cases h with
          | cons a0 b0 => cases b0 with
            | cons a1 b1 => cases b1; exact ⟨_, _, rfl, a0, a1⟩
        cases e with
        | num q => exact absurd (by rfl) hc0
        | name n => exact absurd (by rfl) hc1
        | un o p => exact absurd (by rfl) hc2
        | cond c p q => exact absurd (by rfl) hc6
        | best g l => exact absurd (by rfl) hc9
        | use n l => exact absurd (by rfl) hc9
        | and p q =>
          obtain ⟨p0, p1, e1, e2, e3⟩ := two (t0 := closedP (.and p q) p 0) (t1 := closedP (.and p q) q 1) hps
          refine ⟨.inr (.inl rfl), _, _, p0, p1, e1, e2, e3, ?_⟩
          rw [← closed_eq (e := .and p q) (p := p) (i := 0) (need := 2) rfl, ← closed_eq (e := .and p q) (p := q) (i := 1) (need := 3) rfl]
          simp only [Exp.shown, joinT, List.append_assoc]
          rfl
        | or p q =>
          obtain ⟨p0, p1, e1, e2, e3⟩ := two (t0 := closedP (.or p q) p 0) (t1 := closedP (.or p q) q 1) hps
          refine ⟨.inr (.inr rfl), _, _, p0, p1, e1, e2, e3, ?_⟩
          rw [← closed_eq (e := .or p q) (p := p) (i := 0) (need := 1) rfl, ← closed_eq (e := .or p q) (p := q) (i := 1) (need := 2) rfl]
          simp only [Exp.shown, joinT, List.append_assoc]
          rfl
        | bin o p q =>
          obtain ⟨p0, p1, e1, e2, e3⟩ := two (t0 := closedP (.bin o p q) p 0) (t1 := closedP (.bin o p q) q 1) hps
          refine ⟨.inl rfl, _, _, p0, p1, e1, e2, e3, ?_⟩
          rw [← closed_eq (e := .bin o p q) (p := p) (i := 0) (need := (Vbdeaa.binNeeds o).1) (by cases o <;> rfl), ← closed_eq (e := .bin o p q) (p := q) (i := 1) (need := (Vbdeaa.binNeeds o).2) (by cases o <;> rfl)]
          simp only [Exp.shown, joinT, List.append_assoc, List.cons_append, List.nil_append]
      rw [hsh] at k hs
      simp only [List.length_append, List.length_cons, List.length_nil] at hs
      refine ⟨_, rfl, L, _, _, _, rfl, rfl, SqL.of hL1, at_of (j := 0) rfl rfl, by decide, fun l2 hl2 => ?_⟩
      have s3 := Same.upd (o := .lst [.int 32]) hl2
      refine cat_ok (u := [32]) (s3 _ _ g0) upd_same (by simp only [List.length_append, List.length_cons, List.length_nil]; omega) fun l3 H5 _ s5 e5 => ?_
      have s6 := s3.trans s5
      refine ⟨_, rfl, a, e, rfl, hn2.same s6, hf, fun l4 H6 _ s7 e7 => ?_⟩
      refine cat_ok (s7 _ _ e5) e7 (by simp only [List.length_append, List.length_cons, List.length_nil]; omega) fun l5 H7 _ s8 e8 => ?_
      have s9 := (s6.trans s7).trans s8
      refine ⟨by decide, fun l6 hl6 => ?_⟩
      have s10 := s9.trans (Same.upd (o := .lst [.int 32]) hl6)
      refine cat_ok (u := [32]) ((Same.upd (o := .lst [.int 32]) hl6) _ _ e8) upd_same (by simp only [List.length_append, List.length_cons, List.length_nil]; omega) fun l7 H8 _ s11 e11 => ?_
      have s12 := s10.trans s11
      exact ⟨_, rfl, L, _, _, _, rfl, rfl, SqL.of (s12 _ _ hL1), at_of (j := 1) rfl rfl, cat_ok e11 (s12 _ _ g1) (by simp only [List.length_append, List.length_cons, List.length_nil]; omega) (k.mono (s1.trans s12))⟩
theorem ok_printed {f C fP fK fN fS fW fB fJ fC fWa fPl : Addr} {fd fdP dK dN dS dW dB dJ dC dWa dPl : FuncData} (F : Fn K mg "printed" sPrinted f fd ["node"]) (FPt : Fn K mg "printed_part" sPart fP fdP ["node", "position"]) (FF : FP K mg fK fN fS fW fB fJ fC dK dN dS dW dB dJ dC) (FWa : Fn K mg "wants_brackets" sWants fWa dWa ["node", "position"]) (FPl : Fn K mg "place_of" sPlace fPl dPl ["kind", "position"]) (N : NodeC K C) (T : CP K mg) (TC : CN K mg) (hord : mg "ord" = none) :
    ∀ n : Nat, FnOk P w K mg base (CXr P w) (2 * n + 2) f fd ["node"] (spPrinted C n)
  | 0 => ok_printed0 F
  | n + 1 => ok_printedS F FPt FF N T TC hord (ok_part FPt F FWa N T (ok_printed F FPt FF FWa FPl N T TC hord n) (ok_wants FWa N FF.kind FPl TC) (by omega)) (by omega)
end
end SB
end
section
set_option Elab.async false
set_option maxRecDepth 100000
set_option maxHeartbeats 4000000
set_option linter.all false
namespace SB
open PySem PySem.Spec PyProof.Rows L2 XL
open Vbdeaa (Text Exp Exps Un Bin)
abbrev sRef : Stmt := inClass (top 25) 0
abbrev sSub (i : Nat) : Stmt := inClass (top i) 0
section
variable {P : Program} {w : World} {K : PySem.W.Frag} {mg : Str → Option Value} {base : Heap}
theorem scRef : FnScope ["self", "number"] ["self", "number"] (defScope sRef) := ⟨rfl, rfl, rfl, by decide +kernel, rfl, by decide +kernel, by decide +kernel⟩
theorem ok_ref {f : Addr} {fd : FuncData} (F : Fun K "__init__" "Refusal.__init__" sRef f fd) (hex : mg "Exception" = none) : FnOk P w K mg base (CXr P w) 1 f fd ["self", "number"] (spR K) := by
  refine okX F scRef (fun vs H Q E h => ?_) (fun cdv A outer s H vs Q E hr h => ?_)
  · obtain ⟨_, _, _, rfl, _⟩ := h
    rfl
  · obtain ⟨x, C, n, rfl, hx, hc, k⟩ := h
    refine ⟨_, pss_cons (ps_expr (pe_xinit rfl hex (pa_cons (pv 0) pa_nil))) (pss_one (ps_xset (pv 0) (pv 1) rfl)), ?_⟩
    exact ⟨_, rfl, x, C, none, rfl, hx, hc.over, _, rfl, _, rfl, x, C, rfl, hx, hc.over, hc.sa, hc.tk, hc.hd, k⟩
theorem sc_wpc : FnScope ["self"] ["self"] (defScope (sSub 26)) := ⟨rfl, rfl, rfl, by decide +kernel, rfl, by decide +kernel, by decide +kernel⟩
theorem ok_wpc {f fR R : Addr} {fd fdR : FuncData} (F : Fun K "__init__" "WrongParameterCount.__init__" (sSub 26) f fd) (FR : Fun K "__init__" "Refusal.__init__" sRef fR fdR) (bR : Binds K fdR ["self", "number"] []) (hR : mg "Refusal" = some (.ref R)) (CR : ClsRead K R "__init__" fR) (hex : mg "Exception" = none) : FnOk P w K mg base (CXr P w) 2 f fd ["self"] (spI K (-1)) := by
  have GR : FnOk P w K mg base (CXr P w) 1 fR fdR _ _ := ok_ref FR hex
  refine okX F sc_wpc (fun vs H Q E h => ?_) (fun cdv A outer s H vs Q E hr h => ?_)
  · obtain ⟨_, _, rfl, _⟩ := h
    rfl
  · obtain ⟨x, C, rfl, hx, hc, k⟩ := h
    refine ⟨_, pss_one (ps_expr (pe_clsm (pe_glob rfl hR rfl) CR GR hr bR .nil passes (pa_cons (pv 0) (pa_cons (pe_un un_neg pe_int) pa_nil)))), ?_⟩
    exact ⟨_, rfl, _, rfl, x, C, -1, rfl, hx, hc, k⟩
theorem sc_long : FnScope ["self"] ["self"] (defScope (sSub 27)) := ⟨rfl, rfl, rfl, by decide +kernel, rfl, by decide +kernel, by decide +kernel⟩
theorem ok_long {f fR R : Addr} {fd fdR : FuncData} (F : Fun K "__init__" "CodeTooLong.__init__" (sSub 27) f fd) (FR : Fun K "__init__" "Refusal.__init__" sRef fR fdR) (bR : Binds K fdR ["self", "number"] []) (hR : mg "Refusal" = some (.ref R)) (CR : ClsRead K R "__init__" fR) (hex : mg "Exception" = none) : FnOk P w K mg base (CXr P w) 2 f fd ["self"] (spI K (-2)) := by
  have GR : FnOk P w K mg base (CXr P w) 1 fR fdR _ _ := ok_ref FR hex
  refine okX F sc_long (fun vs H Q E h => ?_) (fun cdv A outer s H vs Q E hr h => ?_)
  · obtain ⟨_, _, rfl, _⟩ := h
    rfl
  · obtain ⟨x, C, rfl, hx, hc, k⟩ := h
    refine ⟨_, pss_one (ps_expr (pe_clsm (pe_glob rfl hR rfl) CR GR hr bR .nil passes (pa_cons (pv 0) (pa_cons (pe_un un_neg pe_int) pa_nil)))), ?_⟩
    exact ⟨_, rfl, _, rfl, x, C, -2, rfl, hx, hc, k⟩
theorem sc_nocode : FnScope ["self"] ["self"] (defScope (sSub 28)) := ⟨rfl, rfl, rfl, by decide +kernel, rfl, by decide +kernel, by decide +kernel⟩
theorem ok_nocode {f fR R : Addr} {fd fdR : FuncData} (F : Fun K "__init__" "NoCode.__init__" (sSub 28) f fd) (FR : Fun K "__init__" "Refusal.__init__" sRef fR fdR) (bR : Binds K fdR ["self", "number"] []) (hR : mg "Refusal" = some (.ref R)) (CR : ClsRead K R "__init__" fR) (hex : mg "Exception" = none) : FnOk P w K mg base (CXr P w) 2 f fd ["self"] (spI K (-3)) := by
  have GR : FnOk P w K mg base (CXr P w) 1 fR fdR _ _ := ok_ref FR hex
  refine okX F sc_nocode (fun vs H Q E h => ?_) (fun cdv A outer s H vs Q E hr h => ?_)
  · obtain ⟨_, _, rfl, _⟩ := h
    rfl
  · obtain ⟨x, C, rfl, hx, hc, k⟩ := h
    refine ⟨_, pss_one (ps_expr (pe_clsm (pe_glob rfl hR rfl) CR GR hr bR .nil passes (pa_cons (pv 0) (pa_cons (pe_un un_neg pe_int) pa_nil)))), ?_⟩
    exact ⟨_, rfl, _, rfl, x, C, -3, rfl, hx, hc, k⟩
theorem sc_deep : FnScope ["self"] ["self"] (defScope (sSub 29)) := ⟨rfl, rfl, rfl, by decide +kernel, rfl, by decide +kernel, by decide +kernel⟩
theorem ok_deep {f fR R : Addr} {fd fdR : FuncData} (F : Fun K "__init__" "CodeTooDeep.__init__" (sSub 29) f fd) (FR : Fun K "__init__" "Refusal.__init__" sRef fR fdR) (bR : Binds K fdR ["self", "number"] []) (hR : mg "Refusal" = some (.ref R)) (CR : ClsRead K R "__init__" fR) (hex : mg "Exception" = none) : FnOk P w K mg base (CXr P w) 2 f fd ["self"] (spI K (-4)) := by
  have GR : FnOk P w K mg base (CXr P w) 1 fR fdR _ _ := ok_ref FR hex
  refine okX F sc_deep (fun vs H Q E h => ?_) (fun cdv A outer s H vs Q E hr h => ?_)
  · obtain ⟨_, _, rfl, _⟩ := h
    rfl
  · obtain ⟨x, C, rfl, hx, hc, k⟩ := h
    refine ⟨_, pss_one (ps_expr (pe_clsm (pe_glob rfl hR rfl) CR GR hr bR .nil passes (pa_cons (pv 0) (pa_cons (pe_un un_neg pe_int) pa_nil)))), ?_⟩
    exact ⟨_, rfl, _, rfl, x, C, -4, rfl, hx, hc, k⟩
end
end SB
end
section
set_option Elab.async false
set_option maxRecDepth 100000
set_option maxHeartbeats 4000000
set_option linter.all false
namespace SB
open PySem PySem.Spec PyProof.Rows L2 XL
open Vbdeaa (Text Exp Exps Un Bin)
theorem pe_glen {X : Cx} {x : Str} {l : List TV} {p0 p pos : Pos} (hg : Gl X x) (hl : Gl X "len") (hlm : X.mg "len" = none) (hm : GC X.K X.mg x (.t l)) (hd : (x == ("__debug__" : Str)) = false := by decide) : PE X (.Call (.Name "len" p0) [.Name x p] [] pos) (tC (.int (l.length : Nat))) := by
  obtain ⟨u, v, e, r, hcc⟩ := hm
  obtain ⟨a, xs, rfl, hsq, hp⟩ := hcc.tup
  intro pins s σ H Q I h
  have key : PE X (.Call (.Name "len" p0) [.Name x p] [] pos) _ := pe_callB call_len_seq hl hlm (by decide +kernel) (pa_cons (pe_glob hg e r hd) pa_nil)
  refine key pins s σ H Q I ⟨a, xs, rfl, .inr (hsq H), ?_⟩
  rw [← Paired.length hp]
  exact h
def LENS : List Int := [3, 2, 2, 2, 2, 2, 2, 2, 3, 1, 2]
structure CR (K : PySem.W.Frag) (mg : Str → Option Value) : Prop where
  LE : GC K mg "LENGTHS" (tvs LENS)
  Z : GC K mg "NUMBER_ZERO" (tvs [0, 0, 1])
  O : GC K mg "NUMBER_ONE" (tvs [0, 1, 1])
  FO : GC K mg "FORMULAS" (.i 64)
  TA : GC K mg "TABLES" (.i 64)
  MA : GC K mg "MOST_ARGUMENTS" (.i 8)
  CALL : GC K mg "CALL" (.i 8)
  tuple : mg "tuple" = none
def choicesI (f n : Int) : Int := if f = 1 then n else if f = 3 then 8 else if f = 4 then 13 else if f = 7 then 64 else 2
def spChoices : Sp := fun vs H Q _ => ∃ f n : Int, vs = [.int f, .int n] ∧ Q (.int (choicesI f n)) H
def rightB (n : Int) : List Int → Bool
  | [0, a, b] => pairB a b
  | [2, k] => !decide (nameRead k = "")
  | [8, f, m] => decide (0 ≤ f ∧ f < 64) && decide (0 ≤ m ∧ m ≤ 8)
  | [9] => true
  | [f, k] => decide (0 ≤ k) && (decide (f = 5 ∨ f = 6) || decide (k < choicesI f n))
  | _ => false
def Shape (row : List Int) : Prop := ∃ f : Nat, row[0]? = some (f : Int) ∧ f < 11 ∧ LENS[f]? = some (row.length : Int)
def spRight : Sp := fun vs H Q _ => ∃ (t : Addr) (row : List Int) (n : Int), vs = [.ref t, .int n] ∧ H t = some (.tup (vI row)) ∧ Shape row ∧ ∀ H', Same H H' → Q (.bl (rightB n row)) H'
abbrev sChoices : Stmt := top 61
abbrev sRight : Stmt := top 60
theorem shape_cases {row : List Int} (h : Shape row) : (∃ a b, row = [0, a, b]) ∨ (∃ a, row = [2, a]) ∨ (∃ a b, row = [8, a, b]) ∨ row = [9] ∨ (∃ (f : Int) (a : Int), row = [f, a] ∧ f ≠ 0 ∧ f ≠ 2 ∧ f ≠ 8 ∧ f ≠ 9) := by
  obtain ⟨f, h0, h1, h2⟩ := h
  have two : row.length = 2 → (f : Int) ≠ 0 ∧ (f : Int) ≠ 2 ∧ (f : Int) ≠ 8 ∧ (f : Int) ≠ 9 → ∃ (f : Int) (a : Int), row = [f, a] ∧ f ≠ 0 ∧ f ≠ 2 ∧ f ≠ 8 ∧ f ≠ 9 := fun hl hf => by
    match row, h0, hl with
    | [a, b], h0, _ => cases h0; exact ⟨_, _, rfl, hf⟩
  have hcase : f = 0 ∨ f = 1 ∨ f = 2 ∨ f = 3 ∨ f = 4 ∨ f = 5 ∨ f = 6 ∨ f = 7 ∨ f = 8 ∨ f = 9 ∨ f = 10 := by omega
  rcases hcase with rfl | rfl | rfl | rfl | rfl | rfl | rfl | rfl | rfl | rfl | rfl
  · have hl : row.length = 3 := by
      have : (3 : Int) = row.length := Option.some.inj h2
      omega
    match row, h0, hl with
    | [a, b, c], h0, _ => cases h0; exact .inl ⟨_, _, rfl⟩
  · exact .inr (.inr (.inr (.inr (two (by have : (2 : Int) = row.length := Option.some.inj h2; omega) (by decide)))))
  · have hl : row.length = 2 := by
      have : (2 : Int) = row.length := Option.some.inj h2
      omega
    match row, h0, hl with
    | [a, b], h0, _ => cases h0; exact .inr (.inl ⟨_, rfl⟩)
  · exact .inr (.inr (.inr (.inr (two (by have : (2 : Int) = row.length := Option.some.inj h2; omega) (by decide)))))
  · exact .inr (.inr (.inr (.inr (two (by have : (2 : Int) = row.length := Option.some.inj h2; omega) (by decide)))))
  · exact .inr (.inr (.inr (.inr (two (by have : (2 : Int) = row.length := Option.some.inj h2; omega) (by decide)))))
  · exact .inr (.inr (.inr (.inr (two (by have : (2 : Int) = row.length := Option.some.inj h2; omega) (by decide)))))
  · exact .inr (.inr (.inr (.inr (two (by have : (2 : Int) = row.length := Option.some.inj h2; omega) (by decide)))))
  · have hl : row.length = 3 := by
      have : (3 : Int) = row.length := Option.some.inj h2
      omega
    match row, h0, hl with
    | [a, b, c], h0, _ => cases h0; exact .inr (.inr (.inl ⟨_, _, rfl⟩))
  · have hl : row.length = 1 := by
      have : (1 : Int) = row.length := Option.some.inj h2
      omega
    match row, h0, hl with
    | [a], h0, _ => cases h0; exact .inr (.inr (.inr (.inl rfl)))
  · exact .inr (.inr (.inr (.inr (two (by have : (2 : Int) = row.length := Option.some.inj h2; omega) (by decide)))))
section
variable {P : Program} {w : World} {K : PySem.W.Frag} {mg : Str → Option Value} {base : Heap}
theorem scChoices : FnScope ["first", "n"] ["first", "n"] (defScope sChoices) := ⟨rfl, rfl, rfl, by decide +kernel, rfl, by decide +kernel, by decide +kernel⟩
theorem ok_choices {f : Addr} {fd : FuncData} (F : Fn K mg "choices_of" sChoices f fd ["first", "n"]) (T : CP K mg) (R : CR K mg) : FnOk P w K mg base (CXr P w) 1 f fd ["first", "n"] spChoices := by
  refine okX F.F scChoices (fun vs H Q E h => ?_) (fun cdv A outer s H vs Q E hr h => ?_)
  · obtain ⟨_, _, rfl, _⟩ := h
    rfl
  · obtain ⟨f0, n, rfl, k⟩ := h
    refine ⟨_, pss_cons (ps_if (pt_cmpR op_eq (pv 0) pe_int (nomark _)) (pss_one (ps_ret (pv 1))) pss_nil)
      (pss_cons (ps_if (pt_cmpR op_eq (pv 0) pe_int (nomark _)) (pss_one (ps_ret (pe_glen rfl rfl T.len T.OW))) pss_nil)
      (pss_cons (ps_if (pt_cmpR op_eq (pv 0) pe_int (nomark _)) (pss_one (ps_ret (pe_glen rfl rfl T.len T.TS))) pss_nil)
      (pss_cons (ps_if (pt_cmpR op_eq (pv 0) pe_int (nomark _)) (pss_one (ps_ret (pe_gi rfl R.TA))) pss_nil)
      (pss_one (ps_ret (pe_glen rfl rfl T.len T.PW)))))), ?_⟩
    unfold choicesI at k
    simp only [L2.start, tSeq, tIfS, tTest, tOp, tVar, tC, tRet, tRetN, tNext, tDrop, rEq, rNe, rI0, rI, scal_ii, scal_ss, scal_bb, scal_ni, scal_in, V.int.injEq, V.str.injEq, V.bl.injEq, V.ref.injEq, true_and, and_true, Option.some.injEq, exists_eq_left', exists_eq_left, exists_eq_right, exists_and_left, List.map_cons, List.map_nil, List.length_cons, List.length_nil, List.cons_append, List.nil_append, List.getElem?_cons_zero, List.getElem?_cons_succ, decide_eq_true_eq, Bool.not_eq_true', decide_eq_false_iff_not, List.replicate_zero, List.replicate_succ, Nat.reduceSub, Nat.sub_self, Nat.reduceAdd, Nat.zero_add, cxK, cxP, cxW, cxMg, tCall, tCons, tNil, tAsg, gName, List.set_cons_zero, List.set_cons_succ, tAnd, tOr, tNot, tIf, tNotV, tAndV, tOrV, tGix, tGix2, tGixS, tCB, List.append_nil, tMeth, tFld, rIxL, rIxT, tIsN, List.append_assoc]
    by_cases h1 : f0 = 1
    · rw [if_pos h1] at k ⊢
      exact k
    rw [if_neg h1] at k ⊢
    by_cases h3 : f0 = 3
    · rw [if_pos h3] at k ⊢
      exact k
    rw [if_neg h3] at k ⊢
    by_cases h4 : f0 = 4
    · rw [if_pos h4] at k ⊢
      exact k
    rw [if_neg h4] at k ⊢
    by_cases h7 : f0 = 7
    · rw [if_pos h7] at k ⊢
      exact k
    rw [if_neg h7] at k ⊢
    exact k
theorem scRight : FnScope ["row", "n", "first"] ["row", "n"] (defScope sRight) := ⟨rfl, rfl, rfl, by decide +kernel, rfl, by decide +kernel, by decide +kernel⟩
theorem ok_right {f fP fG fN fC : Addr} {fd dP dG dN dC : FuncData} (F : Fn K mg "is_right_instruction" sRight f fd ["row", "n"]) (FPr : Fn K mg "is_right_pair" sPair fP dP ["numerator", "denominator"]) (L : GC K mg "LARGEST" (.i 1000000000000000000)) (FG : Fn K mg "common_divisor" sGcd fG dG ["a", "b"])
    (FN : Fn K mg "name_of_read" sName fN dN ["number"]) (FC : Fn K mg "choices_of" sChoices fC dC ["first", "n"]) (T : CP K mg) (R : CR K mg) (M : CM K w mg) : FnOk P w K mg base (CXr P w) 3 f fd ["row", "n"] spRight := by
  have GP : FnOk P w K mg base (CXr P w) 2 fP dP _ _ := ok_pair FPr L FG
  have GN : FnOk P w K mg base (CXr P w) 1 fN dN _ _ := ok_name FN M
  have GC : FnOk P w K mg base (CXr P w) 1 fC dC _ _ := ok_choices FC T R
  refine okX F.F scRight (fun vs H Q E h => ?_) (fun cdv A outer s H vs Q E hr h => ?_)
  · obtain ⟨_, _, _, rfl, _⟩ := h
    rfl
  · obtain ⟨t, row, n, rfl, ht, hsh, k⟩ := h
    have hr1 : Room 1 _ := hr.mono (by omega)
    refine ⟨_, pss_cons (ps_set (i := 2) scRight.nd rfl (Or.inl rfl) (pe_ix ix_tup (pv 0) pe_int (fun _ _ => rfl)))
      (pss_cons (ps_if (pt_cmpR op_eq (pv 2) pe_int (nomark _)) (pss_one (ps_ret (pe_call GP hr rfl FPr.m FPr.F.kp FPr.b .nil passes (pa_cons (pe_ix ix_tup (pv 0) pe_int (fun _ _ => rfl)) (pa_cons (pe_ix ix_tup (pv 0) pe_int (fun _ _ => rfl)) pa_nil))))) pss_nil)
      (pss_cons (ps_if (pt_cmpR op_eq (pv 2) pe_int (nomark _)) (pss_one (ps_ret (pe_cmpR op_ne (pe_call GN hr1 rfl FN.m FN.F.kp FN.b .nil passes (pa_cons (pe_ix ix_tup (pv 0) pe_int (fun _ _ => rfl)) pa_nil)) pe_str (nomark _)))) pss_nil)
      (pss_cons (ps_if (pt_cmpR op_eq (pv 2) pe_int (nomark _)) (pss_one (ps_ret (pe_and (pe_chain op_le op_lt pe_int (pe_ix ix_tup (pv 0) pe_int (fun _ _ => rfl)) (pe_gi rfl R.FO)) (pe_one (pe_chain op_le op_le pe_int (pe_ix ix_tup (pv 0) pe_int (fun _ _ => rfl)) (pe_gi rfl R.MA)))))) pss_nil)
      (pss_cons (ps_if (pt_cmpR op_eq (pv 2) pe_int (nomark _)) (pss_one (ps_ret pe_bl)) pss_nil)
      (pss_one (ps_ret (pe_and (pe_cmpR op_le pe_int (pe_ix ix_tup (pv 0) pe_int (fun _ _ => rfl)) (nomark _)) (pe_one (pe_or (pe_cmpR op_in_seq (pv 2) (pe_tup (pa_cons pe_int (pa_cons pe_int pa_nil))) rfl) (pe_one (pe_cmpR op_lt (pe_ix ix_tup (pv 0) pe_int (fun _ _ => rfl)) (pe_call GC hr1 rfl FC.m FC.F.kp FC.b .nil passes (pa_cons (pv 2) (pa_cons (pv 1) pa_nil))) (nomark _)))))))))))), ?_⟩
    rcases shape_cases hsh with ⟨a, b, rfl⟩ | ⟨a, rfl⟩ | ⟨a, b, rfl⟩ | rfl | ⟨f0, a, rfl, n0, n2, n8, n9⟩
    · refine ⟨_, rfl, t, _, _, _, rfl, rfl, SqT.of ht, at_of (j := 0) rfl rfl, ?_⟩
      refine ⟨_, rfl, rfl, _, rfl, iteT ⟨_, rfl, t, _, _, _, rfl, rfl, SqT.of ht, at_of (j := 1) rfl rfl, _, rfl, t, _, _, _, rfl, rfl, SqT.of ht, at_of (j := 2) rfl rfl, a, b, rfl, k H (Same.refl H)⟩⟩
    · refine ⟨_, rfl, t, _, _, _, rfl, rfl, SqT.of ht, at_of (j := 0) rfl rfl, ?_⟩
      refine ⟨_, rfl, rfl, _, rfl, iteF ?_⟩
      refine ⟨_, rfl, rfl, _, rfl, iteT ⟨_, rfl, t, _, _, _, rfl, rfl, SqT.of ht, at_of (j := 1) rfl rfl, a, rfl, fun H' s' => ⟨rfl, ?_⟩⟩⟩
      have := k H' s'
      have e : rightB n [2, a] = !decide (V.str (nameRead a) = V.str "") := by
        show (!decide (nameRead a = "")) = _
        congr 1
        simp
      rw [e] at this
      exact this
    · refine ⟨_, rfl, t, _, _, _, rfl, rfl, SqT.of ht, at_of (j := 0) rfl rfl, ?_⟩
      refine ⟨_, rfl, rfl, _, rfl, iteF ?_⟩
      refine ⟨_, rfl, rfl, _, rfl, iteF ?_⟩
      refine ⟨_, rfl, rfl, _, rfl, iteT ?_⟩
      have fin : ∀ c : Bool, rightB n [8, a, b] = c → Q (.bl c) H := fun c e => e ▸ k H (Same.refl H)
      have e8 : rightB n [8, a, b] = (decide (0 ≤ a ∧ a < 64) && decide (0 ≤ b ∧ b ≤ 8)) := rfl
      refine ⟨_, rfl, t, _, _, _, rfl, rfl, SqT.of ht, at_of (j := 1) rfl rfl, 0, a, rfl, rfl, _, rfl, ite2 (fun h1 => ?_) fun h1 => ?_⟩
      · have h1 : 0 ≤ a := of_decide_eq_true h1
        refine ⟨a, 64, rfl, rfl, _, rfl, ite2 (fun h2 => ?_) fun h2 => ?_⟩
        · have h2 : a < 64 := of_decide_eq_true h2
          refine ⟨_, rfl, t, _, _, _, rfl, rfl, SqT.of ht, at_of (j := 2) rfl rfl, 0, b, rfl, rfl, _, rfl, ite2 (fun h3 => ?_) fun h3 => ?_⟩
          · have h3 : 0 ≤ b := of_decide_eq_true h3
            refine ⟨b, 8, rfl, rfl, fin _ ?_⟩
            rw [e8, decide_eq_true (⟨h1, h2⟩ : 0 ≤ a ∧ a < 64), Bool.true_and]
            exact decide_eq_decide.mpr ⟨fun z => z.2, fun z => ⟨h3, z⟩⟩
          · refine fin false ?_
            rw [e8, decide_eq_false (p := 0 ≤ b ∧ b ≤ 8) (fun z => h3 (decide_eq_true z.1)), Bool.and_false]
        · refine fin false ?_
          rw [e8, decide_eq_false (p := 0 ≤ a ∧ a < 64) (fun z => h2 (decide_eq_true z.2)), Bool.false_and]
      · refine ⟨_, rfl, iteF (fin false ?_)⟩
        rw [e8, decide_eq_false (p := 0 ≤ a ∧ a < 64) (fun z => h1 (decide_eq_true z.1)), Bool.false_and]
    · refine ⟨_, rfl, t, _, _, _, rfl, rfl, SqT.of ht, at_of (j := 0) rfl rfl, ?_⟩
      refine ⟨_, rfl, rfl, _, rfl, iteF ?_⟩
      refine ⟨_, rfl, rfl, _, rfl, iteF ?_⟩
      refine ⟨_, rfl, rfl, _, rfl, iteF ?_⟩
      exact ⟨_, rfl, rfl, _, rfl, iteT (k H (Same.refl H))⟩
    · have e5 : rightB n [f0, a] = (decide (0 ≤ a) && (decide (f0 = 5 ∨ f0 = 6) || decide (a < choicesI f0 n))) := by
        unfold rightB
        split
        · rename_i h; cases h
        · rename_i h; injection h with h _; exact absurd h n2
        · rename_i h; cases h
        · rename_i h; cases h
        · rename_i h; cases h; rfl
        · rename_i h1 h2 h3 h4 h5; exact absurd rfl (h5 f0 a)
      have fin : ∀ (c : Bool) (H' : Hp), Same H H' → rightB n [f0, a] = c → Q (.bl c) H' := fun c H' s' e => e ▸ k H' s'
      refine ⟨_, rfl, t, _, _, _, rfl, rfl, SqT.of ht, at_of (j := 0) rfl rfl, ?_⟩
      refine ⟨_, rfl, rfl, _, rfl, ite2 (fun h => absurd (vint_inj (of_decide_eq_true h)) n0) fun _ => ?_⟩
      refine ⟨_, rfl, rfl, _, rfl, ite2 (fun h => absurd (vint_inj (of_decide_eq_true h)) n2) fun _ => ?_⟩
      refine ⟨_, rfl, rfl, _, rfl, ite2 (fun h => absurd (vint_inj (of_decide_eq_true h)) n8) fun _ => ?_⟩
      refine ⟨_, rfl, rfl, _, rfl, ite2 (fun h => absurd (vint_inj (of_decide_eq_true h)) n9) fun _ => ?_⟩
      refine ⟨_, rfl, t, _, _, _, rfl, rfl, SqT.of ht, at_of (j := 1) rfl rfl, 0, a, rfl, rfl, _, rfl, ite2 (fun h1 => ?_) fun h1 => ?_⟩
      · have h1 : 0 ≤ a := of_decide_eq_true h1
        refine ⟨_, rfl, by show 2 ≤ sizeLine; decide, fun tt htt => ?_⟩
        have s1 : Same H (L2.upd H tt (.tup [.int 5, .int 6])) := Same.upd htt
        refine ⟨tt, _, rfl, .inr (SqT.of upd_same), rfl, rfl, _, rfl, ?_⟩
        have hin : inV (.int f0) [V.int 5, V.int 6] = decide (f0 = 5 ∨ f0 = 6) := by
          show (((5 : Int) == f0) || (((6 : Int) == f0) || false)) = _
          rw [Bool.or_false, Bool.eq_iff_iff]
          simp only [Bool.or_eq_true, beq_iff_eq, decide_eq_true_eq]
          exact ⟨fun z => z.elim (fun y => .inl y.symm) fun y => .inr y.symm, fun z => z.elim (fun y => .inl y.symm) fun y => .inr y.symm⟩
        show if inV (.int f0) [V.int 5, V.int 6] = true then _ else _
        rw [hin]
        refine ite2 (fun h2 => ?_) fun h2 => ?_
        · refine fin true _ s1 ?_
          rw [e5, decide_eq_true h1, h2]
          rfl
        · refine ⟨_, rfl, t, _, _, _, rfl, rfl, SqT.of (s1 _ _ ht), at_of (j := 1) rfl rfl, _, rfl, _, rfl, f0, n, rfl, a, choicesI f0 n, rfl, rfl, fin _ _ s1 ?_⟩
          rw [e5, decide_eq_true h1, Bool.true_and, (by simpa using h2 : decide (f0 = 5 ∨ f0 = 6) = false), Bool.false_or]
      · refine fin false H (Same.refl H) ?_
        rw [e5, decide_eq_false (fun z => h1 (decide_eq_true z)), Bool.false_and]
end
end SB
end
section
set_option linter.all false
namespace MX
open Vbdeaa (Exp Exps Ins Code)
open Vbdeam (plain orParts andParts ifParts jumpOf isOne isZeroIns isTruthIns parse)
inductive Run (n : Nat) : Code → List Exp → Exp → Prop
  | done (e : Exp) : Run n [] [e] e
  | plain {i : Ins} {r : Code} {st t : List Exp} {e : Exp} : plain n i st = some t → Run n r t e → Run n (i :: r) st e
  | or_ {a : Exp} {st : List Exp} {k : Nat} {r b rest : Code} {y e : Exp} : orParts k r = some (b, rest) → Run n b [] y → Run n rest (.or a y :: st) e → Run n (.zero k :: r) (a :: st) e
  | and_ {a : Exp} {st : List Exp} {k : Nat} {r b rest : Code} {y e : Exp} : andParts k r = some (b, rest) → Run n b [] y → Run n rest (.and a y :: st) e → Run n (.zero k :: r) (a :: st) e
  | if_ {a : Exp} {st : List Exp} {k : Nat} {r x y rest : Code} {u v e : Exp} : ifParts k r = some (x, y, rest) → Run n x [] u → Run n y [] v → Run n rest (.cond a u v :: st) e → Run n (.zero k :: r) (a :: st) e
theorem plain_zero (n k : Nat) (st : List Exp) : plain n (.zero k) st = none := by
  unfold Vbdeam.plain
  split <;> simp_all
theorem plain_jump (n k : Nat) (st : List Exp) : plain n (.jump k) st = none := by
  unfold Vbdeam.plain
  split <;> simp_all
theorem plain_truth (n : Nat) (st : List Exp) : plain n .truth st = none := by
  unfold Vbdeam.plain
  split <;> simp_all
theorem parse_plain {n k : Nat} {i : Ins} {r : Code} {st : List Exp} (h : ∀ m, i ≠ .zero m) : parse n (k + 1) (i :: r) st = (plain n i st).bind fun t => parse n k r t := by
  cases i with
  | zero m => exact absurd rfl (h m)
  | push q => show (match plain n (.push q) st with | some t => parse n k r t | none => none) = _; cases plain n (.push q) st <;> rfl
  | arg q => show (match plain n (.arg q) st with | some t => parse n k r t | none => none) = _; cases plain n (.arg q) st <;> rfl
  | var q => show (match plain n (.var q) st with | some t => parse n k r t | none => none) = _; cases plain n (.var q) st <;> rfl
  | un q => show (match plain n (.un q) st with | some t => parse n k r t | none => none) = _; cases plain n (.un q) st <;> rfl
  | bin q => show (match plain n (.bin q) st with | some t => parse n k r t | none => none) = _; cases plain n (.bin q) st <;> rfl
  | jump q => show (match plain n (.jump q) st with | some t => parse n k r t | none => none) = _; cases plain n (.jump q) st <;> rfl
  | table q => show (match plain n (.table q) st with | some t => parse n k r t | none => none) = _; cases plain n (.table q) st <;> rfl
  | call q q' => show (match plain n (.call q q') st with | some t => parse n k r t | none => none) = _; cases plain n (.call q q') st <;> rfl
  | truth => show (match plain n .truth st with | some t => parse n k r t | none => none) = _; cases plain n .truth st <;> rfl
  | best q => show (match plain n (.best q) st with | some t => parse n k r t | none => none) = _; cases plain n (.best q) st <;> rfl
theorem parse_run {n : Nat} : ∀ {k : Nat} {c : Code} {st : List Exp} {e : Exp}, parse n k c st = some e → Run n c st e := by
  intro k
  induction k with
  | zero => intro c st e h; rw [parse] at h; cases h
  | succ k ih =>
    intro c st e h
    cases c with
    | nil =>
      match st, h with
      | [x], h => rw [parse] at h; cases h; exact .done e
      | [], h => cases h
      | x :: y :: s, h => cases h
    | cons i r =>
      by_cases hz : ∃ m, i = .zero m
      · obtain ⟨m, rfl⟩ := hz
        match st, h with
        | [], h => rw [parse] at h; cases h
        | a :: st, h =>
          rw [parse] at h
          split at h
          · rename_i e' h1
            cases h
            split at h1
            · rename_i b rest hp
              obtain ⟨y, hy, he⟩ := Option.bind_eq_some_iff.mp h1
              exact .or_ hp (ih hy) (ih he)
            · cases h1
          · split at h
            · rename_i e' h1
              cases h
              split at h1
              · rename_i b rest hp
                obtain ⟨y, hy, he⟩ := Option.bind_eq_some_iff.mp h1
                exact .and_ hp (ih hy) (ih he)
              · cases h1
            · split at h
              · rename_i x y rest hp
                obtain ⟨u, hu, h2⟩ := Option.bind_eq_some_iff.mp h
                obtain ⟨v, hv, he⟩ := Option.bind_eq_some_iff.mp h2
                exact .if_ hp (ih hu) (ih hv) (ih he)
              · cases h
      · rw [parse_plain (fun m z => hz ⟨m, z⟩)] at h
        obtain ⟨t, ht, he⟩ := Option.bind_eq_some_iff.mp h
        exact .plain ht (ih he)
structure Ch where
  cond : Exp
  start : Nat
  middle : Nat
  end_ : Nat
  first : Option Exp
  below : List Exp
structure MS where
  pos : Nat
  cur : List Exp
  chs : List Ch
def Ch.limit (x : Ch) : Nat := match x.first with
  | none => x.middle - 1
  | some _ => x.end_
def limitOf (c : Code) : List Ch → Nat
  | [] => c.length
  | x :: _ => x.limit
def isAnd (c : Code) (x : Ch) : Bool := decide (x.end_ = x.middle + 1) && (c[x.middle]?).any isZeroIns
def isOr (c : Code) (x : Ch) : Bool := decide (x.middle = x.start + 3) && (c[x.start + 1]?).any isOne
def settle (p : Nat) : List Exp → List Ch → Option MS
  | cur, [] => some ⟨p, cur, []⟩
  | cur, x :: r => if p = x.end_ then (match cur, x.first with
    | [e], some f => settle p (.cond x.cond f e :: x.below) r
    | _, _ => none) else some ⟨p, cur, x :: r⟩
def nine (c : Code) (s : MS) : Option MS := match s.cur, s.chs with
  | [e], x :: r => match x.first with
    | none => if isAnd c x = true ∧ s.pos + 2 = x.middle then some ⟨x.end_, .and x.cond e :: x.below, r⟩ else none
    | some _ => if isOr c x = true ∧ s.pos + 1 = x.end_ then some ⟨x.end_, .or x.cond e :: x.below, r⟩ else none
  | _, _ => none
def jump (s : MS) : Option MS := match s.cur, s.chs with
  | [e], x :: r => if s.pos + 1 = x.middle then some ⟨s.pos + 1, [], { x with first := some e } :: r⟩ else none
  | _, _ => none
def begin_ (c : Code) (k : Nat) (s : MS) : Option MS := match s.cur with
  | [] => none
  | a :: st => match (if limitOf c s.chs < s.pos + 1 + k then none else (c[s.pos + k]?).bind jumpOf) with
    | none => none
    | some m => if limitOf c s.chs < s.pos + 1 + k + m then none else some ⟨s.pos + 1, [], ⟨a, s.pos, s.pos + 1 + k, s.pos + 1 + k + m, none, st⟩ :: s.chs⟩
def core (n : Nat) (c : Code) (i : Ins) (s : MS) : Option MS := match i with
  | .zero k => begin_ c k s
  | .jump _ => jump s
  | .truth => nine c s
  | i => (plain n i s.cur).map fun t => ⟨s.pos + 1, t, s.chs⟩
def step (n : Nat) (c : Code) (s : MS) : Option MS := match c[s.pos]? with
  | none => none
  | some i => (core n c i s).bind fun t => settle t.pos t.cur t.chs
inductive Reach (n : Nat) (c : Code) : MS → MS → Prop
  | refl (s : MS) : Reach n c s s
  | step {s t u : MS} : step n c s = some t → Reach n c t u → Reach n c s u
theorem Reach.trans {n : Nat} {c : Code} {s t u : MS} (h : Reach n c s t) (g : Reach n c t u) : Reach n c s u := by
  induction h with
  | refl => exact g
  | step a _ ih => exact .step a (ih g)
def At (c : Code) (p : Nat) (b : Code) : Prop := ∀ j, j < b.length → c[p + j]? = b[j]?
theorem At.tail {c : Code} {p : Nat} {i : Ins} {b : Code} (h : At c p (i :: b)) : At c (p + 1) b := fun j hj => by
  have := h (j + 1) (by simp; omega)
  rw [List.getElem?_cons_succ] at this
  rw [← this]
  congr 1
  omega
theorem At.head {c : Code} {p : Nat} {i : Ins} {b : Code} (h : At c p (i :: b)) : c[p]? = some i := by
  have := h 0 (by simp)
  simpa using this
theorem At.take {c : Code} {p : Nat} {b : Code} (h : At c p b) (k : Nat) : At c p (b.take k) := fun j hj => by
  rw [List.length_take] at hj
  rw [h j (by omega), List.getElem?_take, if_pos (by omega)]
theorem At.drop {c : Code} {p : Nat} {b : Code} (h : At c p b) (k : Nat) : At c (p + k) (b.drop k) := fun j hj => by
  rw [List.length_drop] at hj
  rw [List.getElem?_drop, Nat.add_assoc]
  exact h (k + j) (by omega)
end MX
end
section
set_option linter.all false
namespace MX
open Vbdeaa (Exp Exps Ins Code)
open Vbdeam (plain orParts andParts ifParts jumpOf isOne isZeroIns isTruthIns parse)
theorem isOne_eq {i : Ins} (h : isOne i = true) : i = .push (1, 1) := by
  cases i with
  | push q => rw [show q = (1, 1) from by simpa [isOne] using h]
  | _ => cases h
theorem isZero_eq {i : Ins} (h : isZeroIns i = true) : i = .push (0, 1) := by
  cases i with
  | push q => rw [show q = (0, 1) from by simpa [isZeroIns] using h]
  | _ => cases h
theorem isTruth_eq {i : Ins} (h : isTruthIns i = true) : i = .truth := by
  cases i with
  | truth => rfl
  | _ => cases h
theorem jumpOf_eq {i : Ins} {m : Nat} (h : jumpOf i = some m) : i = .jump m := by
  cases i with
  | jump q => cases h; rfl
  | _ => cases h
theorem any_eq {o : Option Ins} {f : Ins → Bool} (h : o.any f = true) : ∃ i, o = some i ∧ f i = true := by
  cases o with
  | none => cases h
  | some i => exact ⟨i, rfl, h⟩
theorem bind_jump {o : Option Ins} {m : Nat} (h : o.bind jumpOf = some m) : o = some (.jump m) := by
  cases o with
  | none => cases h
  | some i => rw [jumpOf_eq (show jumpOf i = some m from h)]
theorem or_inv {k : Nat} {r b rest : Code} (h : orParts k r = some (b, rest)) : ∃ m r2, r = .push (1, 1) :: .jump m :: r2 ∧ k = 2 ∧ 1 ≤ m ∧ m ≤ r2.length ∧ r2[m - 1]? = some .truth ∧ b = r2.take (m - 1) ∧ rest = r2.drop m := by
  unfold Vbdeam.orParts at h
  split at h
  · rename_i one j r2
    split at h
    · rename_i m hj
      split at h
      · rename_i hc
        obtain ⟨h1, h2, h3, h4, h5⟩ := hc
        obtain ⟨i, hi, ht⟩ := any_eq h5
        cases h
        rw [isOne_eq h2, jumpOf_eq hj]
        exact ⟨m, r2, rfl, h1, h3, h4, by rw [hi, isTruth_eq ht], rfl, rfl⟩
      · cases h
    · cases h
  · cases h
theorem or_mk {m : Nat} {r2 : Code} (h1 : 1 ≤ m) (h2 : m ≤ r2.length) (h3 : r2[m - 1]? = some .truth) : orParts 2 (.push (1, 1) :: .jump m :: r2) = some (r2.take (m - 1), r2.drop m) := by
  unfold Vbdeam.orParts
  simp only [jumpOf]
  rw [if_pos ⟨trivial, by decide, h1, h2, by rw [h3]; rfl⟩]
theorem and_inv {k : Nat} {r b rest : Code} (h : andParts k r = some (b, rest)) : 2 ≤ k ∧ k + 1 ≤ r.length ∧ r[k - 2]? = some .truth ∧ r[k - 1]? = some (.jump 1) ∧ r[k]? = some (.push (0, 1)) ∧ b = r.take (k - 2) ∧ rest = r.drop (k + 1) := by
  unfold Vbdeam.andParts at h
  split at h
  · rename_i hc
    obtain ⟨h1, h2, h3, h4, h5⟩ := hc
    obtain ⟨i, hi, ht⟩ := any_eq h3
    obtain ⟨j, hj, hz⟩ := any_eq h5
    cases h
    exact ⟨h1, h2, by rw [hi, isTruth_eq ht], bind_jump h4, by rw [hj, isZero_eq hz], rfl, rfl⟩
  · cases h
theorem and_mk {k : Nat} {r : Code} (h1 : 2 ≤ k) (h2 : k + 1 ≤ r.length) (h3 : r[k - 2]? = some .truth) (h4 : r[k - 1]? = some (.jump 1)) (h5 : r[k]? = some (.push (0, 1))) : andParts k r = some (r.take (k - 2), r.drop (k + 1)) := by
  unfold Vbdeam.andParts
  rw [if_pos ⟨h1, h2, by rw [h3]; rfl, by rw [h4]; rfl, by rw [h5]; rfl⟩]
theorem if_inv {k : Nat} {r x y rest : Code} (h : ifParts k r = some (x, y, rest)) : ∃ m, k ≠ 0 ∧ r[k - 1]? = some (.jump m) ∧ k + m ≤ r.length ∧ x = r.take (k - 1) ∧ y = (r.drop k).take m ∧ rest = r.drop (k + m) := by
  unfold Vbdeam.ifParts at h
  split at h
  · cases h
  · rename_i hk
    split at h
    · rename_i m hm
      split at h
      · rename_i hl
        cases h
        exact ⟨m, hk, bind_jump hm, hl, rfl, rfl, rfl⟩
      · cases h
    · cases h
theorem if_mk {k m : Nat} {r : Code} (h1 : k ≠ 0) (h2 : r[k - 1]? = some (.jump m)) (h3 : k + m ≤ r.length) : ifParts k r = some (r.take (k - 1), (r.drop k).take m, r.drop (k + m)) := by
  unfold Vbdeam.ifParts
  rw [if_neg h1, h2]
  simp only [Option.bind_some, jumpOf]
  rw [if_pos h3]
theorem settle_id {p : Nat} {st : List Exp} {chs : List Ch} (h : ∀ x r, chs = x :: r → p ≠ x.end_) : settle p st chs = some ⟨p, st, chs⟩ := by
  cases chs with
  | nil => rfl
  | cons x r =>
    unfold settle
    rw [if_neg (h x r rfl)]
theorem core_plain {n : Nat} {c : Code} {i : Ins} {s : MS} {t : List Exp} (h : plain n i s.cur = some t) : core n c i s = some ⟨s.pos + 1, t, s.chs⟩ := by
  cases i with
  | zero k => rw [plain_zero] at h; cases h
  | jump k => rw [plain_jump] at h; cases h
  | truth => rw [plain_truth] at h; cases h
  | _ => unfold core; simp only; rw [h]; rfl
theorem step_of {n : Nat} {c : Code} {s t u : MS} {i : Ins} (hi : c[s.pos]? = some i) (hc : core n c i s = some t) (hs : settle t.pos t.cur t.chs = some u) : step n c s = some u := by
  unfold step
  rw [hi]
  simp only
  rw [hc]
  exact hs
theorem sim {n : Nat} {b : Code} {st : List Exp} {e : Exp} (h : Run n b st e) : ∀ (c : Code) (p : Nat) (chs : List Ch), At c p b → p + b.length ≤ limitOf c chs → (∀ x r, chs = x :: r → x.limit ≤ x.end_) → ∀ t, settle (p + b.length) [e] chs = some t → ∃ s, settle p st chs = some s ∧ Reach n c s t := by
  induction h with
  | done e => intro c p chs _ _ _ t ht; exact ⟨t, ht, .refl t⟩
  | @plain i r st t' e hp hr ih =>
    intro c p chs ha hl hx t ht
    rw [List.length_cons] at hl ht
    have hid : settle p st chs = some ⟨p, st, chs⟩ := settle_id fun x q eq => by
      have := hx x q eq
      subst eq
      have : limitOf c (x :: q) = x.limit := rfl
      omega
    obtain ⟨s2, h2, r2⟩ := ih c (p + 1) chs ha.tail (by omega) hx t (by rw [show p + 1 + r.length = p + (r.length + 1) by omega]; exact ht)
    exact ⟨_, hid, .step (step_of (s := ⟨p, st, chs⟩) (t := ⟨p + 1, t', chs⟩) ha.head (core_plain (s := ⟨p, st, chs⟩) hp) h2) r2⟩
  | @or_ a st k r b rest y e hp hb hr ihb ihr =>
    intro c p chs ha hl hx t ht
    obtain ⟨m, r2, rfl, rfl, hm1, hm2, htr, rfl, rfl⟩ := or_inv hp
    simp only [List.length_cons, List.length_drop] at hl ht ihr
    have hid : settle p (a :: st) chs = some ⟨p, a :: st, chs⟩ := settle_id fun x q eq => by
      have := hx x q eq
      subst eq
      have : limitOf c (x :: q) = x.limit := rfl
      omega
    have h1 := ha.tail
    have h2 := h1.tail
    have h3 := h2.tail
    have g1 := h1.head
    have g2 := h2.head
    have hx0 : ∀ (f : Option Exp) (x : Ch) (q : List Ch), ((⟨a, p, p + 3, p + 3 + m, f, st⟩ : Ch) :: chs) = x :: q → x.limit ≤ x.end_ := fun f x q eq => by
      cases eq
      cases f <;> simp only [Ch.limit] <;> omega
    have s1 : step n c ⟨p, a :: st, chs⟩ = some ⟨p + 1, [], ⟨a, p, p + 3, p + 3 + m, none, st⟩ :: chs⟩ := by
      refine step_of (i := .zero 2) ha.head (t := ⟨p + 1, [], ⟨a, p, p + 3, p + 3 + m, none, st⟩ :: chs⟩) ?_ (settle_id fun x q eq => by cases eq; simp only; omega)
      unfold core begin_
      simp only
      rw [if_neg (by omega), show p + 2 = p + 1 + 1 by omega, g2]
      simp only [Option.bind_some, jumpOf]
      rw [if_neg (by omega)]
    have s2 : step n c ⟨p + 1, [], ⟨a, p, p + 3, p + 3 + m, none, st⟩ :: chs⟩ = some ⟨p + 2, [.num (1, 1)], ⟨a, p, p + 3, p + 3 + m, none, st⟩ :: chs⟩ :=
      step_of (i := .push (1, 1)) g1 (t := ⟨p + 2, [.num (1, 1)], ⟨a, p, p + 3, p + 3 + m, none, st⟩ :: chs⟩) (core_plain (s := ⟨p + 1, [], ⟨a, p, p + 3, p + 3 + m, none, st⟩ :: chs⟩) (by unfold Vbdeam.plain; simp only; rw [if_pos (by decide +kernel)])) (settle_id fun x q eq => by cases eq; simp only; omega)
    have s3 : step n c ⟨p + 2, [.num (1, 1)], ⟨a, p, p + 3, p + 3 + m, none, st⟩ :: chs⟩ = some ⟨p + 3, [], ⟨a, p, p + 3, p + 3 + m, some (.num (1, 1)), st⟩ :: chs⟩ := by
      refine step_of (i := .jump m) g2 (t := ⟨p + 3, [], ⟨a, p, p + 3, p + 3 + m, some (.num (1, 1)), st⟩ :: chs⟩) ?_ (settle_id fun x q eq => by cases eq; simp only; omega)
      unfold core jump
      simp only
      rw [if_pos trivial]
    have lb : (r2.take (m - 1)).length = m - 1 := by rw [List.length_take]; omega
    obtain ⟨u, hu, ru⟩ := ihb c (p + 3) (⟨a, p, p + 3, p + 3 + m, some (.num (1, 1)), st⟩ :: chs) (h3.take _) (by rw [lb]; simp only [limitOf, Ch.limit]; omega) (hx0 _) ⟨p + 2 + m, [y], ⟨a, p, p + 3, p + 3 + m, some (.num (1, 1)), st⟩ :: chs⟩ (by rw [lb, show p + 3 + (m - 1) = p + 2 + m by omega]; exact settle_id fun x q eq => by cases eq; simp only; omega)
    rw [settle_id (fun x q eq => by cases eq; simp only; omega)] at hu
    cases hu
    obtain ⟨v, hv, rv⟩ := ihr c (p + 3 + m) chs (h3.drop m) (by omega) hx t (by rw [show p + 3 + m + (r2.length - m) = p + (r2.length + 1 + 1 + 1) by omega]; exact ht)
    have s4 : step n c ⟨p + 2 + m, [y], ⟨a, p, p + 3, p + 3 + m, some (.num (1, 1)), st⟩ :: chs⟩ = some v := by
      have gt : c[p + 2 + m]? = some .truth := by
        have := h3 (m - 1) (by omega)
        rw [htr] at this
        rw [← this]
        congr 1
        omega
      refine step_of (i := .truth) gt (t := ⟨p + 3 + m, .or a y :: st, chs⟩) ?_ hv
      unfold core nine
      simp only
      rw [if_pos ⟨by unfold isOr; simp only; rw [g1]; simp [isOne], by omega⟩]
    exact ⟨_, hid, .step s1 (.step s2 (.step s3 (ru.trans (.step s4 rv))))⟩
  | @and_ a st k r b rest y e hp hb hr ihb ihr =>
    intro c p chs ha hl hx t ht
    obtain ⟨h2k, hkl, hk2, hk1, hk0, rfl, rfl⟩ := and_inv hp
    simp only [List.length_cons, List.length_drop] at hl ht ihr
    have hid : settle p (a :: st) chs = some ⟨p, a :: st, chs⟩ := settle_id fun x q eq => by
      have := hx x q eq
      subst eq
      have : limitOf c (x :: q) = x.limit := rfl
      omega
    have h1 := ha.tail
    have gj : c[p + k]? = some (.jump 1) := by
      have := h1 (k - 1) (by omega)
      rw [hk1] at this
      rw [← this]
      congr 1
      omega
    have gz : c[p + 1 + k]? = some (.push (0, 1)) := by
      have := h1 k (by omega)
      rw [hk0] at this
      exact this
    have gt : c[p + 1 + (k - 2)]? = some .truth := by
      have := h1 (k - 2) (by omega)
      rw [hk2] at this
      exact this
    have s1 : step n c ⟨p, a :: st, chs⟩ = some ⟨p + 1, [], ⟨a, p, p + 1 + k, p + 1 + k + 1, none, st⟩ :: chs⟩ := by
      refine step_of (i := .zero k) ha.head (t := ⟨p + 1, [], ⟨a, p, p + 1 + k, p + 1 + k + 1, none, st⟩ :: chs⟩) ?_ (settle_id fun x q eq => by cases eq; simp only; omega)
      unfold core begin_
      simp only
      rw [if_neg (by omega), gj]
      simp only [Option.bind_some, jumpOf]
      rw [if_neg (by omega)]
    have lb : (r.take (k - 2)).length = k - 2 := by rw [List.length_take]; omega
    obtain ⟨u, hu, ru⟩ := ihb c (p + 1) (⟨a, p, p + 1 + k, p + 1 + k + 1, none, st⟩ :: chs) (h1.take _) (by rw [lb]; simp only [limitOf, Ch.limit]; omega) (fun x q eq => by cases eq; simp only [Ch.limit]; omega) ⟨p + 1 + (k - 2), [y], ⟨a, p, p + 1 + k, p + 1 + k + 1, none, st⟩ :: chs⟩ (by rw [lb]; exact settle_id fun x q eq => by cases eq; simp only; omega)
    rw [settle_id (fun x q eq => by cases eq; simp only; omega)] at hu
    cases hu
    obtain ⟨v, hv, rv⟩ := ihr c (p + 1 + k + 1) chs (by rw [show p + 1 + k + 1 = p + 1 + (k + 1) by omega]; exact h1.drop (k + 1)) (by omega) hx t (by rw [show p + 1 + k + 1 + (r.length - (k + 1)) = p + (r.length + 1) by omega]; exact ht)
    have s4 : step n c ⟨p + 1 + (k - 2), [y], ⟨a, p, p + 1 + k, p + 1 + k + 1, none, st⟩ :: chs⟩ = some v := by
      refine step_of (i := .truth) gt (t := ⟨p + 1 + k + 1, .and a y :: st, chs⟩) ?_ hv
      unfold core nine
      simp only
      rw [if_pos ⟨by unfold isAnd; simp only; rw [gz]; simp [isZeroIns], by omega⟩]
    exact ⟨_, hid, .step s1 (ru.trans (.step s4 rv))⟩
  | @if_ a st k r x y rest u' v' e hp hx' hy hr ihx ihy ihr =>
    intro c p chs ha hl hx t ht
    obtain ⟨m, hk0, hj, hkl, rfl, rfl, rfl⟩ := if_inv hp
    simp only [List.length_cons, List.length_drop] at hl ht ihr
    have hid : settle p (a :: st) chs = some ⟨p, a :: st, chs⟩ := settle_id fun x q eq => by
      have := hx x q eq
      subst eq
      have : limitOf c (x :: q) = x.limit := rfl
      omega
    have h1 := ha.tail
    have gj : c[p + k]? = some (.jump m) := by
      have := h1 (k - 1) (by omega)
      rw [hj] at this
      rw [← this]
      congr 1
      omega
    have s1 : step n c ⟨p, a :: st, chs⟩ = some ⟨p + 1, [], ⟨a, p, p + 1 + k, p + 1 + k + m, none, st⟩ :: chs⟩ := by
      refine step_of (i := .zero k) ha.head (t := ⟨p + 1, [], ⟨a, p, p + 1 + k, p + 1 + k + m, none, st⟩ :: chs⟩) ?_ (settle_id fun x q eq => by cases eq; simp only; omega)
      unfold core begin_
      simp only
      rw [if_neg (by omega), gj]
      simp only [Option.bind_some, jumpOf]
      rw [if_neg (by omega)]
    have lx : (r.take (k - 1)).length = k - 1 := by rw [List.length_take]; omega
    have ly : ((r.drop k).take m).length = m := by rw [List.length_take, List.length_drop]; omega
    obtain ⟨u, hu, ru⟩ := ihx c (p + 1) (⟨a, p, p + 1 + k, p + 1 + k + m, none, st⟩ :: chs) (h1.take _) (by rw [lx]; simp only [limitOf, Ch.limit]; omega) (fun x q eq => by cases eq; simp only [Ch.limit]; omega) ⟨p + k, [u'], ⟨a, p, p + 1 + k, p + 1 + k + m, none, st⟩ :: chs⟩ (by rw [lx, show p + 1 + (k - 1) = p + k by omega]; exact settle_id fun x q eq => by cases eq; simp only; omega)
    rw [settle_id (fun x q eq => by cases eq; simp only; omega)] at hu
    cases hu
    obtain ⟨v, hv, rv⟩ := ihr c (p + 1 + k + m) chs (by rw [show p + 1 + k + m = p + 1 + (k + m) by omega]; exact h1.drop (k + m)) (by omega) hx t (by rw [show p + 1 + k + m + (r.length - (k + m)) = p + (r.length + 1) by omega]; exact ht)
    obtain ⟨z, hz, rz⟩ := ihy c (p + 1 + k) (⟨a, p, p + 1 + k, p + 1 + k + m, some u', st⟩ :: chs) ((h1.drop k).take m) (by rw [ly]; simp only [limitOf, Ch.limit]; omega) (fun x q eq => by cases eq; simp only [Ch.limit]; omega) v (by rw [ly]; unfold settle; simp only [if_true]; exact hv)
    have s4 : step n c ⟨p + k, [u'], ⟨a, p, p + 1 + k, p + 1 + k + m, none, st⟩ :: chs⟩ = some z := by
      refine step_of (i := .jump m) gj (t := ⟨p + 1 + k, [], ⟨a, p, p + 1 + k, p + 1 + k + m, some u', st⟩ :: chs⟩) ?_ hz
      unfold core jump
      simp only
      rw [if_pos (by omega), show p + k + 1 = p + 1 + k by omega]
    exact ⟨_, hid, .step s1 (ru.trans (.step s4 (rz.trans rv)))⟩
end MX
end
section
set_option linter.all false
namespace MX
open Vbdeaa (Exp Exps Ins Code)
open Vbdeam (plain orParts andParts ifParts jumpOf isOne isZeroIns isTruthIns parse)
theorem reach_det {n : Nat} {c : Code} {s t u : MS} (h : Reach n c s t) (g : Reach n c s u) (ht : step n c t = none) (hu : step n c u = none) : t = u := by
  induction h with
  | refl s =>
    cases g with
    | refl => rfl
    | step a _ => rw [ht] at a; cases a
  | step a _ ih =>
    cases g with
    | refl => rw [hu] at a; cases a
    | step b g' => rw [a] at b; cases b; exact ih g' ht
theorem step_end {n : Nat} {c : Code} {e : Exp} : step n c ⟨c.length, [e], []⟩ = none := by
  unfold step
  simp
theorem at_self (b : Code) : At b 0 b := fun j _ => by rw [Nat.zero_add]
theorem run_reach {n : Nat} {b : Code} {st : List Exp} {e : Exp} (h : Run n b st e) : Reach n b ⟨0, st, []⟩ ⟨b.length, [e], []⟩ := by
  obtain ⟨s, hs, r⟩ := sim h b 0 [] (at_self b) (by simp [limitOf]) (fun x r z => by cases z) ⟨b.length, [e], []⟩ (by rw [Nat.zero_add]; rfl)
  cases hs
  exact r
theorem run_uniq {n : Nat} {b : Code} {st : List Exp} {e e' : Exp} (h : Run n b st e) (g : Run n b st e') : e = e' := by
  have := reach_det (run_reach h) (run_reach g) step_end step_end
  injection this with _ h2 _
  injection h2
theorem run_parse {n : Nat} {c : Code} {st : List Exp} {e : Exp} (h : Run n c st e) : ∀ k, c.length < k → parse n k c st = some e := by
  induction h with
  | done e =>
    intro k hk
    obtain ⟨k, rfl⟩ : ∃ j, k = j + 1 := ⟨k - 1, by omega⟩
    rfl
  | @plain i r st t e hp hr ih =>
    intro k hk
    obtain ⟨k, rfl⟩ : ∃ j, k = j + 1 := ⟨k - 1, by omega⟩
    rw [parse_plain (fun m z => by rw [z, plain_zero] at hp; cases hp), hp]
    exact ih k (by simp at hk; omega)
  | @or_ a st m r b rest y e hp hb hr ihb ihr =>
    intro k hk
    obtain ⟨k, rfl⟩ : ∃ j, k = j + 1 := ⟨k - 1, by omega⟩
    have hl : b.length < k ∧ rest.length < k := by
      obtain ⟨m', r2, rfl, _, h1, h2, _, rfl, rfl⟩ := or_inv hp
      simp only [List.length_cons, List.length_take, List.length_drop] at hk ⊢
      omega
    rw [parse, hp]
    simp only [ihb k hl.1, Option.bind_some, ihr k hl.2]
  | @and_ a st m r b rest y e hp hb hr ihb ihr =>
    intro k hk
    obtain ⟨k, rfl⟩ : ∃ j, k = j + 1 := ⟨k - 1, by omega⟩
    have hl : b.length < k ∧ rest.length < k := by
      obtain ⟨h1, h2, _, _, _, rfl, rfl⟩ := and_inv hp
      simp only [List.length_cons, List.length_take, List.length_drop] at hk ⊢
      omega
    rw [parse]
    split
    · rename_i e' h1
      split at h1
      · rename_i b' rest' hp'
        obtain ⟨y', hy, he⟩ := Option.bind_eq_some_iff.mp h1
        rw [run_uniq (Run.or_ hp' (parse_run hy) (parse_run he)) (Run.and_ hp hb hr)]
      · cases h1
    · rw [hp]
      simp only [ihb k hl.1, Option.bind_some, ihr k hl.2]
  | @if_ a st m r x y rest u v e hp hx hy hr ihx ihy ihr =>
    intro k hk
    obtain ⟨k, rfl⟩ : ∃ j, k = j + 1 := ⟨k - 1, by omega⟩
    have hl : x.length < k ∧ y.length < k ∧ rest.length < k := by
      obtain ⟨m', h1, h2, h3, rfl, rfl, rfl⟩ := if_inv hp
      simp only [List.length_cons, List.length_take, List.length_drop] at hk ⊢
      omega
    rw [parse]
    split
    · rename_i e' h1
      split at h1
      · rename_i b' rest' hp'
        obtain ⟨y', hy', he⟩ := Option.bind_eq_some_iff.mp h1
        rw [run_uniq (Run.or_ hp' (parse_run hy') (parse_run he)) (Run.if_ hp hx hy hr)]
      · cases h1
    · split
      · rename_i e' h1
        split at h1
        · rename_i b' rest' hp'
          obtain ⟨y', hy', he⟩ := Option.bind_eq_some_iff.mp h1
          rw [run_uniq (Run.and_ hp' (parse_run hy') (parse_run he)) (Run.if_ hp hx hy hr)]
        · cases h1
      · rw [hp]
        simp only [ihx k hl.1, Option.bind_some, ihy k hl.2.1, ihr k hl.2.2]
theorem tree_run {n : Nat} {c : Code} {e : Exp} : Vbdeam.tree n c = some e ↔ Run n c [] e := ⟨fun h => parse_run h, fun h => run_parse h _ (Nat.lt_succ_self _)⟩
def Chain (c : Code) : Nat → List Ch → Prop
  | p, [] => p ≤ c.length
  | p, x :: r => x.start < p ∧ (match x.first with
    | none => p < x.middle
    | some _ => x.middle ≤ p ∧ p ≤ x.end_) ∧ x.start < x.middle ∧ x.middle ≤ x.end_ ∧ c[x.middle - 1]? = some (.jump (x.end_ - x.middle)) ∧ Chain c x.end_ r
structure WF (c : Code) (s : MS) : Prop where
  chain : Chain c s.pos s.chs
  settled : ∀ x r, s.chs = x :: r → s.pos ≠ x.end_
theorem Chain.le {c : Code} : ∀ {chs : List Ch} {p : Nat}, Chain c p chs → p ≤ c.length
  | [], p, h => h
  | x :: r, p, h => by
    obtain ⟨h1, h2, h3, h4, h5, h6⟩ := h
    have := Chain.le h6
    cases hf : x.first with
    | none => rw [hf] at h2; simp only at h2; omega
    | some f => rw [hf] at h2; simp only at h2; omega
theorem Chain.limit {c : Code} {chs : List Ch} {p : Nat} (h : Chain c p chs) : p ≤ limitOf c chs ∧ limitOf c chs ≤ c.length := by
  cases chs with
  | nil => exact ⟨h, Nat.le_refl _⟩
  | cons x r =>
    obtain ⟨h1, h2, h3, h4, h5, h6⟩ := h
    have := Chain.le h6
    cases hf : x.first with
    | none => rw [hf] at h2; simp only [limitOf, Ch.limit, hf] at h2 ⊢; omega
    | some f => rw [hf] at h2; simp only [limitOf, Ch.limit, hf] at h2 ⊢; omega
theorem wf_init (c : Code) : WF c ⟨0, [], []⟩ := ⟨Nat.zero_le _, fun x r z => by cases z⟩
theorem settle_wf {c : Code} : ∀ {chs : List Ch} {p : Nat} {cur : List Exp} {t : MS}, Chain c p chs → settle p cur chs = some t → WF c t ∧ t.pos = p
  | [], p, cur, t, h, e => by cases e; exact ⟨⟨h, fun x r z => by cases z⟩, rfl⟩
  | x :: r, p, cur, t, h, e => by
    unfold settle at e
    split at e
    · rename_i hp
      split at e
      · rename_i e1 f hf
        have h6 := h.2.2.2.2.2
        rw [← hp] at h6
        exact settle_wf h6 e
      · cases e
    · rename_i hp
      cases e
      exact ⟨⟨h, fun y q z => by cases z; exact hp⟩, rfl⟩
theorem core_chain {n : Nat} {c : Code} {s t : MS} {i : Ins} (w : WF c s) (hi : c[s.pos]? = some i) (h : core n c i s = some t) : Chain c t.pos t.chs := by
  have hlt : s.pos < c.length := (List.getElem?_eq_some_iff.mp hi).1
  have plainCase : ∀ st, (∀ m, i ≠ .jump m) → t = ⟨s.pos + 1, st, s.chs⟩ → Chain c t.pos t.chs := by
    rintro st hj rfl
    have hc := w.chain
    show Chain c (s.pos + 1) s.chs
    cases hs : s.chs with
    | nil => exact hlt
    | cons x r =>
      rw [hs] at hc
      obtain ⟨h1, h2, h3, h4, h5, h6⟩ := hc
      have ne := w.settled x r hs
      refine ⟨by omega, ?_, h3, h4, h5, h6⟩
      cases hf : x.first with
      | none =>
        rw [hf] at h2
        simp only at h2 ⊢
        by_cases q : s.pos + 1 = x.middle
        · rw [show x.middle - 1 = s.pos by omega, hi] at h5
          exact absurd (Option.some.inj h5) (hj _)
        · omega
      | some f => rw [hf] at h2; simp only at h2 ⊢; omega
  cases i with
  | zero k =>
    unfold core begin_ at h
    simp only at h
    split at h
    · cases h
    · rename_i a st hcur
      split at h
      · cases h
      · rename_i m hm
        split at h
        · cases h
        · rename_i hl
          cases h
          split at hm
          · cases hm
          · have hj := bind_jump hm
            have hk : k ≠ 0 := fun z => by
              subst z
              rw [Nat.add_zero, hi] at hj
              cases hj
            refine ⟨Nat.lt_succ_self _, by simp only; omega, by simp only; omega, by simp only; omega, ?_, ?_⟩
            · simp only
              rw [show s.pos + 1 + k - 1 = s.pos + k by omega, hj, show s.pos + 1 + k + m - (s.pos + 1 + k) = m by omega]
            · have hc := w.chain
              simp only
              cases hs : s.chs with
              | nil => rw [hs] at hl; simp only [limitOf] at hl; show _ ≤ c.length; omega
              | cons x r =>
                rw [hs] at hc hl
                obtain ⟨h1, h2, h3, h4, h5, h6⟩ := hc
                refine ⟨by omega, ?_, h3, h4, h5, h6⟩
                simp only [limitOf, Ch.limit] at hl
                cases hf : x.first with
                | none => rw [hf] at h2 hl; simp only at h2 hl ⊢; omega
                | some f => rw [hf] at h2 hl; simp only at h2 hl ⊢; omega
  | jump k =>
    unfold core jump at h
    simp only at h
    split at h
    · rename_i e x r hcur hs
      split at h
      · rename_i hp
        cases h
        have hc := w.chain
        rw [hs] at hc
        obtain ⟨h1, h2, h3, h4, h5, h6⟩ := hc
        exact ⟨by simp only; omega, by simp only; omega, h3, h4, h5, h6⟩
      · cases h
    · cases h
  | truth =>
    unfold core nine at h
    simp only at h
    split at h
    · rename_i e x r hcur hs
      have hc := w.chain
      rw [hs] at hc
      have h6 := hc.2.2.2.2.2
      split at h
      · split at h
        · cases h; exact h6
        · cases h
      · split at h
        · cases h; exact h6
        · cases h
    · cases h
  | push q => unfold core at h; simp only at h; obtain ⟨st, _, e⟩ := Option.map_eq_some_iff.mp h; exact plainCase st (fun m z => by cases z) e.symm
  | arg q => unfold core at h; simp only at h; obtain ⟨st, _, e⟩ := Option.map_eq_some_iff.mp h; exact plainCase st (fun m z => by cases z) e.symm
  | var q => unfold core at h; simp only at h; obtain ⟨st, _, e⟩ := Option.map_eq_some_iff.mp h; exact plainCase st (fun m z => by cases z) e.symm
  | un q => unfold core at h; simp only at h; obtain ⟨st, _, e⟩ := Option.map_eq_some_iff.mp h; exact plainCase st (fun m z => by cases z) e.symm
  | bin q => unfold core at h; simp only at h; obtain ⟨st, _, e⟩ := Option.map_eq_some_iff.mp h; exact plainCase st (fun m z => by cases z) e.symm
  | table q => unfold core at h; simp only at h; obtain ⟨st, _, e⟩ := Option.map_eq_some_iff.mp h; exact plainCase st (fun m z => by cases z) e.symm
  | call q q' => unfold core at h; simp only at h; obtain ⟨st, _, e⟩ := Option.map_eq_some_iff.mp h; exact plainCase st (fun m z => by cases z) e.symm
  | best q => unfold core at h; simp only at h; obtain ⟨st, _, e⟩ := Option.map_eq_some_iff.mp h; exact plainCase st (fun m z => by cases z) e.symm
theorem step_wf {n : Nat} {c : Code} {s t : MS} (w : WF c s) (h : step n c s = some t) : WF c t := by
  unfold step at h
  split at h
  · cases h
  · rename_i i hi
    obtain ⟨u, hu, ht⟩ := Option.bind_eq_some_iff.mp h
    exact (settle_wf (core_chain w hi hu) ht).1
theorem wf_end {c : Code} {s : MS} (w : WF c s) (h : ¬ s.pos < c.length) : s.pos = c.length ∧ s.chs = [] := by
  have hc := w.chain
  have hle := hc.le
  refine ⟨by omega, ?_⟩
  cases hs : s.chs with
  | nil => rfl
  | cons x r =>
    rw [hs] at hc
    obtain ⟨h1, h2, h3, h4, h5, h6⟩ := hc
    have := h6.le
    have ne := w.settled x r hs
    cases hf : x.first with
    | none => rw [hf] at h2; simp only at h2; omega
    | some f => rw [hf] at h2; simp only at h2; omega
end MX
end
section
set_option linter.all false
namespace MX
open Vbdeaa (Exp Exps Ins Code)
open Vbdeam (plain orParts andParts ifParts jumpOf isOne isZeroIns isTruthIns parse)
def seg (c : Code) (p q : Nat) : Code := (c.drop p).take (q - p)
theorem seg_nil (c : Code) (p : Nat) : seg c p p = [] := by unfold seg; simp
theorem seg_get {c : Code} {p q j : Nat} : (seg c p q)[j]? = if j < q - p then c[p + j]? else none := by
  unfold seg
  rw [List.getElem?_take, List.getElem?_drop]
theorem seg_len {c : Code} {p q : Nat} (h : q ≤ c.length) : (seg c p q).length = q - p := by
  unfold seg
  rw [List.length_take, List.length_drop]
  omega
theorem seg_cons {c : Code} {p q : Nat} {i : Ins} (hi : c[p]? = some i) (h : p < q) : seg c p q = i :: seg c (p + 1) q := by
  unfold seg
  have hlt := (List.getElem?_eq_some_iff.mp hi)
  obtain ⟨h1, h2⟩ := hlt
  rw [List.drop_eq_getElem_cons h1, h2, show q - p = q - (p + 1) + 1 by omega, List.take_succ_cons]
theorem seg_take {c : Code} {p q k : Nat} (h : p + k ≤ q) : (seg c p q).take k = seg c p (p + k) := by
  unfold seg
  rw [List.take_take]
  congr 1
  omega
theorem seg_drop {c : Code} {p q k : Nat} : (seg c p q).drop k = seg c (p + k) q := by
  unfold seg
  rw [List.drop_take, List.drop_drop]
  congr 1
  omega
def Snd (n : Nat) (c : Code) (x : Ch) (G : List Exp → Prop) (f : Exp) (pos : Nat) (cur : List Exp) : Prop :=
  (isOr c x = true ∧ pos + 1 ≤ x.end_ ∧ c[x.end_ - 1]? = some .truth ∧ ∃ y, Run n (seg c pos (x.end_ - 1)) cur y ∧ G (.or x.cond y :: x.below)) ∨
  (pos ≤ x.end_ ∧ ∃ y, Run n (seg c pos x.end_) cur y ∧ G (.cond x.cond f y :: x.below))
def Good (n : Nat) (c : Code) (e : Exp) : List Ch → Nat → List Exp → Prop
  | [], pos, cur => pos ≤ c.length ∧ Run n (seg c pos c.length) cur e
  | x :: r, pos, cur => match x.first with
    | some f => Snd n c x (fun st => Good n c e r x.end_ st) f pos cur
    | none => (isAnd c x = true ∧ pos + 2 ≤ x.middle ∧ c[x.middle - 2]? = some .truth ∧ ∃ y, Run n (seg c pos (x.middle - 2)) cur y ∧ Good n c e r x.end_ (.and x.cond y :: x.below)) ∨
      (pos + 1 ≤ x.middle ∧ ∃ u, Run n (seg c pos (x.middle - 1)) cur u ∧ Snd n c x (fun st => Good n c e r x.end_ st) u x.middle [])
theorem good_back {n : Nat} {c : Code} {e : Exp} {chs : List Ch} {p p2 : Nat} {st st2 : List Exp} (hp : p ≤ p2) (hc : Chain c p2 chs) (hr : ∀ q z, p2 ≤ q → q ≤ c.length → Run n (seg c p2 q) st2 z → Run n (seg c p q) st z) (g : Good n c e chs p2 st2) : Good n c e chs p st := by
  cases chs with
  | nil => exact ⟨Nat.le_trans hp g.1, hr _ _ g.1 (Nat.le_refl _) g.2⟩
  | cons x r =>
    obtain ⟨h1, h2, h3, h4, h5, h6⟩ := hc
    have hle := h6.le
    unfold Good at g ⊢
    cases hf : x.first with
    | none =>
      rw [hf] at g
      simp only at g ⊢
      rcases g with ⟨a1, a2, a3, y, a4, a5⟩ | ⟨a1, u, a2, a3⟩
      · exact .inl ⟨a1, by omega, a3, y, hr _ _ (by omega) (by omega) a4, a5⟩
      · exact .inr ⟨by omega, u, hr _ _ (by omega) (by omega) a2, a3⟩
    | some f =>
      rw [hf] at g
      simp only at g ⊢
      rcases g with ⟨a1, a2, a3, y, a4, a5⟩ | ⟨a1, y, a2, a3⟩
      · exact .inl ⟨a1, by omega, a3, y, hr _ _ (by omega) (by omega) a4, a5⟩
      · exact .inr ⟨by omega, y, hr _ _ (by omega) (by omega) a2, a3⟩
theorem settle_back {n : Nat} {c : Code} {e : Exp} : ∀ {chs : List Ch} {p : Nat} {cur : List Exp} {t : MS}, settle p cur chs = some t → Good n c e t.chs t.pos t.cur → Good n c e chs p cur
  | [], p, cur, t, h, g => by cases h; exact g
  | x :: r, p, cur, t, h, g => by
    unfold settle at h
    split at h
    · rename_i hp
      split at h
      · rename_i e1 f hf
        have := settle_back h g
        unfold Good
        rw [hf]
        simp only
        refine .inr ⟨Nat.le_of_eq hp, e1, by rw [hp, seg_nil]; exact .done e1, ?_⟩
        rw [← hp]
        exact this
      · cases h
    · cases h
      exact g
theorem core_back {n : Nat} {c : Code} {e : Exp} {s t : MS} {i : Ins} (w : WF c s) (hi : c[s.pos]? = some i) (h : core n c i s = some t) (g : Good n c e t.chs t.pos t.cur) : Good n c e s.chs s.pos s.cur := by
  have hct := core_chain w hi h
  have plainCase : ∀ st, plain n i s.cur = some st → t = ⟨s.pos + 1, st, s.chs⟩ → Good n c e s.chs s.pos s.cur := by
    rintro st hst rfl
    refine good_back (Nat.le_succ _) hct (fun q z hq _ hr => ?_) g
    rw [seg_cons hi (Nat.lt_of_succ_le hq)]
    exact .plain hst hr
  cases i with
  | zero k =>
    unfold core begin_ at h
    simp only at h
    split at h
    · cases h
    · rename_i a st hcur
      split at h
      · cases h
      · rename_i m hm
        split at h
        · cases h
        · rename_i hl
          cases h
          split at hm
          · cases hm
          · have hj := bind_jump hm
            have hk : k ≠ 0 := fun z => by
              subst z
              rw [Nat.add_zero, hi] at hj
              cases hj
            have hc6 : Chain c (s.pos + 1 + k + m) s.chs := hct.2.2.2.2.2
            rw [hcur]
            unfold Good at g
            simp only at g
            have gj : ∀ q, s.pos + 1 + k ≤ q → (seg c (s.pos + 1) q)[k - 1]? = some (.jump m) := fun q hq => by
              rw [seg_get, if_pos (by omega), show s.pos + 1 + (k - 1) = s.pos + k by omega, hj]
            rcases g with ⟨a1, a2, a3, y, a4, a5⟩ | ⟨a1, u, a2, a3⟩
            · unfold isAnd at a1
              simp only [Bool.and_eq_true, decide_eq_true_eq] at a1
              obtain ⟨b1, b2⟩ := a1
              obtain ⟨j, hjz, hz⟩ := any_eq b2
              rw [isZero_eq hz] at hjz
              have hm1 : m = 1 := by omega
              subst hm1
              refine good_back (by omega) hc6 (fun q z hq hqc hr => ?_) a5
              rw [seg_cons hi (by omega)]
              have ha := and_mk (k := k) (r := seg c (s.pos + 1) q) (by omega) (by rw [seg_len hqc]; omega) (by rw [seg_get, if_pos (by omega), ← a3]; congr 1; omega) (gj q (by omega)) (by rw [seg_get, if_pos (by omega), hjz])
              rw [seg_take (by omega), seg_drop] at ha
              refine .and_ (y := y) ha ?_ ?_
              · rw [show s.pos + 1 + (k - 2) = s.pos + 1 + k - 2 by omega]
                exact a4
              · exact hr
            · rcases a3 with ⟨b1, b2, b3, y, b4, b5⟩ | ⟨b1, y, b2, b3⟩
              · unfold isOr at b1
                simp only [Bool.and_eq_true, decide_eq_true_eq] at b1
                obtain ⟨c1, c2⟩ := b1
                obtain ⟨j, hj1, ho⟩ := any_eq c2
                rw [isOne_eq ho] at hj1
                have hk2 : k = 2 := by omega
                subst hk2
                simp only at b2 b3 b4 b5
                refine good_back (by omega) hc6 (fun q z hq hqc hr => ?_) b5
                rw [seg_cons hi (by omega), seg_cons hj1 (by omega), seg_cons (i := .jump m) (by rw [← hj]) (by omega)]
                have ho2 := or_mk (m := m) (r2 := seg c (s.pos + 1 + 1 + 1) q) (by omega) (by rw [seg_len hqc]; omega) (by rw [seg_get, if_pos (by omega), ← b3]; congr 1; omega)
                rw [seg_take (by omega), seg_drop] at ho2
                refine .or_ (y := y) ho2 ?_ ?_
                · rw [show s.pos + 1 + 1 + 1 + (m - 1) = s.pos + 1 + 2 + m - 1 by omega]
                  exact b4
                · rw [show s.pos + 1 + 1 + 1 + m = s.pos + 1 + 2 + m by omega]
                  exact hr
              · simp only at b1 b2 b3
                refine good_back (by omega) hc6 (fun q z hq hqc hr => ?_) b3
                rw [seg_cons hi (by omega)]
                have hi2 := if_mk (k := k) (m := m) (r := seg c (s.pos + 1) q) hk (gj q (by omega)) (by rw [seg_len hqc]; omega)
                rw [seg_take (by omega), seg_drop, seg_take (by omega), seg_drop] at hi2
                refine .if_ (u := u) (v := y) hi2 ?_ b2 ?_
                · rw [show s.pos + 1 + (k - 1) = s.pos + 1 + k - 1 by omega]
                  exact a2
                · rw [show s.pos + 1 + (k + m) = s.pos + 1 + k + m by omega]
                  exact hr
  | jump k =>
    unfold core jump at h
    simp only at h
    split at h
    · rename_i e1 x r hcur hs
      split at h
      · rename_i hp
        cases h
        have hc := w.chain
        rw [hs] at hc
        obtain ⟨h1, h2, h3, h4, h5, h6⟩ := hc
        rw [hs, hcur]
        unfold Good at g ⊢
        simp only at g
        cases hf : x.first with
        | some f => rw [hf] at h2; simp only at h2; omega
        | none =>
          simp only
          refine .inr ⟨Nat.le_of_eq hp, e1, by rw [show x.middle - 1 = s.pos by omega, seg_nil]; exact .done e1, ?_⟩
          rw [← hp]
          rcases g with ⟨a1, a2⟩ | g
          · exact .inl ⟨a1, a2⟩
          · exact .inr g
      · cases h
    · cases h
  | truth =>
    unfold core nine at h
    simp only at h
    split at h
    · rename_i e1 x r hcur hs
      rw [hs, hcur]
      unfold Good
      split at h
      · rename_i hf
        split at h
        · rename_i hc
          cases h
          rw [hf]
          simp only
          refine .inl ⟨hc.1, Nat.le_of_eq hc.2, by rw [← hc.2]; exact hi, e1, by rw [show x.middle - 2 = s.pos by omega, seg_nil]; exact .done e1, g⟩
        · cases h
      · rename_i f hf
        split at h
        · rename_i hc
          cases h
          rw [hf]
          simp only
          refine .inl ⟨hc.1, Nat.le_of_eq hc.2, by rw [← hc.2]; exact hi, e1, by rw [show x.end_ - 1 = s.pos by omega, seg_nil]; exact .done e1, g⟩
        · cases h
    · cases h
  | push q => unfold core at h; simp only at h; obtain ⟨st, e1, e2⟩ := Option.map_eq_some_iff.mp h; exact plainCase st e1 e2.symm
  | arg q => unfold core at h; simp only at h; obtain ⟨st, e1, e2⟩ := Option.map_eq_some_iff.mp h; exact plainCase st e1 e2.symm
  | var q => unfold core at h; simp only at h; obtain ⟨st, e1, e2⟩ := Option.map_eq_some_iff.mp h; exact plainCase st e1 e2.symm
  | un q => unfold core at h; simp only at h; obtain ⟨st, e1, e2⟩ := Option.map_eq_some_iff.mp h; exact plainCase st e1 e2.symm
  | bin q => unfold core at h; simp only at h; obtain ⟨st, e1, e2⟩ := Option.map_eq_some_iff.mp h; exact plainCase st e1 e2.symm
  | table q => unfold core at h; simp only at h; obtain ⟨st, e1, e2⟩ := Option.map_eq_some_iff.mp h; exact plainCase st e1 e2.symm
  | call q q' => unfold core at h; simp only at h; obtain ⟨st, e1, e2⟩ := Option.map_eq_some_iff.mp h; exact plainCase st e1 e2.symm
  | best q => unfold core at h; simp only at h; obtain ⟨st, e1, e2⟩ := Option.map_eq_some_iff.mp h; exact plainCase st e1 e2.symm
theorem core_pos {n : Nat} {c : Code} {s t : MS} {i : Ins} (w : WF c s) (hi : c[s.pos]? = some i) (h : core n c i s = some t) : s.pos < t.pos := by
  cases i with
  | zero k =>
    unfold core begin_ at h
    simp only at h
    split at h
    · cases h
    · split at h
      · cases h
      · split at h
        · cases h
        · cases h; exact Nat.lt_succ_self _
  | jump k =>
    unfold core jump at h
    simp only at h
    split at h
    · split at h
      · cases h; exact Nat.lt_succ_self _
      · cases h
    · cases h
  | truth =>
    unfold core nine at h
    simp only at h
    split at h
    · rename_i e1 x r hcur hs
      have hc := w.chain
      rw [hs] at hc
      obtain ⟨h1, h2, h3, h4, h5, h6⟩ := hc
      split at h
      · split at h
        · rename_i hc; cases h; show s.pos < x.end_; omega
        · cases h
      · split at h
        · rename_i hc; cases h; show s.pos < x.end_; omega
        · cases h
    · cases h
  | push q => unfold core at h; simp only at h; obtain ⟨st, e1, e2⟩ := Option.map_eq_some_iff.mp h; cases e2; exact Nat.lt_succ_self _
  | arg q => unfold core at h; simp only at h; obtain ⟨st, e1, e2⟩ := Option.map_eq_some_iff.mp h; cases e2; exact Nat.lt_succ_self _
  | var q => unfold core at h; simp only at h; obtain ⟨st, e1, e2⟩ := Option.map_eq_some_iff.mp h; cases e2; exact Nat.lt_succ_self _
  | un q => unfold core at h; simp only at h; obtain ⟨st, e1, e2⟩ := Option.map_eq_some_iff.mp h; cases e2; exact Nat.lt_succ_self _
  | bin q => unfold core at h; simp only at h; obtain ⟨st, e1, e2⟩ := Option.map_eq_some_iff.mp h; cases e2; exact Nat.lt_succ_self _
  | table q => unfold core at h; simp only at h; obtain ⟨st, e1, e2⟩ := Option.map_eq_some_iff.mp h; cases e2; exact Nat.lt_succ_self _
  | call q q' => unfold core at h; simp only at h; obtain ⟨st, e1, e2⟩ := Option.map_eq_some_iff.mp h; cases e2; exact Nat.lt_succ_self _
  | best q => unfold core at h; simp only at h; obtain ⟨st, e1, e2⟩ := Option.map_eq_some_iff.mp h; cases e2; exact Nat.lt_succ_self _
theorem step_parts {n : Nat} {c : Code} {s t : MS} (w : WF c s) (h : step n c s = some t) : s.pos < t.pos ∧ WF c t ∧ ∀ e, Good n c e t.chs t.pos t.cur → Good n c e s.chs s.pos s.cur := by
  unfold step at h
  split at h
  · cases h
  · rename_i i hi
    obtain ⟨u, hu, ht⟩ := Option.bind_eq_some_iff.mp h
    obtain ⟨hw, hp⟩ := settle_wf (core_chain w hi hu) ht
    exact ⟨by rw [hp]; exact core_pos w hi hu, hw, fun e g => core_back w hi hu (settle_back ht g)⟩
def only : List Exp → Option Exp
  | [e] => some e
  | _ => none
def mrun (n : Nat) (c : Code) : Nat → MS → Option Exp
  | 0, _ => none
  | k + 1, s => if s.pos < c.length then (step n c s).bind (mrun n c k) else only s.cur
theorem mrun_stable {n : Nat} {c : Code} : ∀ (k k' : Nat) (s : MS), WF c s → c.length - s.pos < k → c.length - s.pos < k' → mrun n c k s = mrun n c k' s
  | 0, _, s, w, h, _ => by omega
  | _ + 1, 0, s, w, _, h => by omega
  | k + 1, k' + 1, s, w, h, h' => by
    unfold mrun
    by_cases hp : s.pos < c.length
    · rw [if_pos hp, if_pos hp]
      cases hs : step n c s with
      | none => rfl
      | some t =>
        obtain ⟨h1, h2, _⟩ := step_parts w hs
        exact mrun_stable k k' t h2 (by omega) (by omega)
    · rw [if_neg hp, if_neg hp]
theorem mrun_good {n : Nat} {c : Code} : ∀ (k : Nat) (s : MS) (e : Exp), WF c s → mrun n c k s = some e → Good n c e s.chs s.pos s.cur
  | 0, s, e, w, h => by cases h
  | k + 1, s, e, w, h => by
    unfold mrun at h
    by_cases hp : s.pos < c.length
    · rw [if_pos hp] at h
      obtain ⟨t, ht, he⟩ := Option.bind_eq_some_iff.mp h
      obtain ⟨_, h2, h3⟩ := step_parts w ht
      exact h3 e (mrun_good k t e h2 he)
    · rw [if_neg hp] at h
      obtain ⟨h1, h2⟩ := wf_end w hp
      rw [h2, h1]
      unfold only at h
      split at h
      · rename_i e1 hcur
        cases h
        rw [hcur]
        exact ⟨Nat.le_refl _, by rw [seg_nil]; exact .done e⟩
      · cases h
theorem reach_mrun {n : Nat} {c : Code} {s t : MS} (h : Reach n c s t) : ∀ {e : Exp} {k : Nat}, WF c s → t = ⟨c.length, [e], []⟩ → c.length - s.pos < k → mrun n c k s = some e := by
  induction h with
  | refl s =>
    intro e k w ht hk
    subst ht
    obtain ⟨k, rfl⟩ : ∃ j, k = j + 1 := ⟨k - 1, by omega⟩
    unfold mrun
    rw [if_neg (Nat.lt_irrefl _)]
    rfl
  | @step s u t a r ih =>
    intro e k w ht hk
    obtain ⟨k, rfl⟩ : ∃ j, k = j + 1 := ⟨k - 1, by omega⟩
    obtain ⟨h1, h2, _⟩ := step_parts w a
    have hp : s.pos < c.length := by
      unfold MX.step at a
      split at a
      · cases a
      · rename_i i hi
        exact (List.getElem?_eq_some_iff.mp hi).1
    unfold mrun
    rw [if_pos hp, a]
    exact ih h2 ht (by omega)
theorem mrun_tree {n : Nat} {c : Code} : mrun n c (c.length + 1) ⟨0, [], []⟩ = Vbdeam.tree n c := by
  cases h : Vbdeam.tree n c with
  | some e => exact reach_mrun (run_reach (tree_run.mp h)) (wf_init c) rfl (by simp)
  | none =>
    cases g : mrun n c (c.length + 1) ⟨0, [], []⟩ with
    | none => rfl
    | some e =>
      have := mrun_good _ _ _ (wf_init c) g
      have r : Run n (seg c 0 c.length) [] e := this.2
      have hs : seg c 0 c.length = c := by unfold seg; simp
      rw [hs] at r
      rw [tree_run.mpr r] at h
      cases h
end MX
end
section
set_option linter.all false
namespace MX
open Vbdeaa (Exp Exps Ins Code)
open Vbdeam (plain orParts andParts ifParts jumpOf isOne isZeroIns isTruthIns parse)
def insOk (n : Nat) : Ins → Bool
  | .push q => Vbdeaa.proper q && decide (0 ≤ q.1)
  | .arg k => decide (k < n)
  | .var k => (Vbdeam.readName k).isSome
  | .table t => decide (t < 64)
  | .call f m => decide (f < 64) && decide (m ≤ 8)
  | _ => true
theorem plain_ok {n : Nat} {i : Ins} {st t : List Exp} (h : plain n i st = some t) : insOk n i = true := by
  cases i with
  | push q =>
    unfold Vbdeam.plain at h
    simp only at h
    split at h
    · rename_i hq
      show (Vbdeaa.proper q && decide (0 ≤ q.1)) = true
      rw [hq.1, decide_eq_true hq.2]
      rfl
    · cases h
  | arg k =>
    unfold Vbdeam.plain at h
    simp only at h
    split at h
    · rename_i hq; exact decide_eq_true hq
    · cases h
  | var k =>
    unfold Vbdeam.plain at h
    simp only at h
    obtain ⟨x, hx, _⟩ := Option.map_eq_some_iff.mp h
    show (Vbdeam.readName k).isSome = true
    rw [hx]
    rfl
  | table k =>
    cases st with
    | nil => unfold Vbdeam.plain at h; cases h
    | cons x st =>
      unfold Vbdeam.plain at h
      simp only at h
      split at h
      · rename_i hq; exact decide_eq_true hq
      · cases h
  | call f m =>
    unfold Vbdeam.plain at h
    simp only at h
    split at h
    · cases h
    · rename_i hq
      show (decide (f < 64) && decide (m ≤ 8)) = true
      rw [decide_eq_true (show f < 64 by omega), decide_eq_true (show m ≤ 8 by omega)]
      rfl
  | _ => rfl
theorem take_mem {r : Code} {m : Nat} {i j : Ins} (hj : r[m]? = some j) (hi : i ∈ r) : i ∈ r.take m ∨ i = j ∨ i ∈ r.drop (m + 1) := by
  have hlt := (List.getElem?_eq_some_iff.mp hj)
  obtain ⟨h1, h2⟩ := hlt
  rw [← List.take_append_drop m r, List.drop_eq_getElem_cons h1, h2] at hi
  simp only [List.mem_append, List.mem_cons] at hi
  exact hi
theorem run_ok {n : Nat} {c : Code} {st : List Exp} {e : Exp} (h : Run n c st e) : ∀ i ∈ c, insOk n i = true := by
  induction h with
  | done e => intro i hi; cases hi
  | plain hp _ ih =>
    intro i hi
    rcases List.mem_cons.mp hi with rfl | hi
    · exact plain_ok hp
    · exact ih i hi
  | or_ hp _ _ ihb ihr =>
    obtain ⟨m, r2, rfl, rfl, h1, h2, h3, rfl, rfl⟩ := or_inv hp
    intro i hi
    simp only [List.mem_cons] at hi
    rcases hi with rfl | rfl | rfl | hi
    · rfl
    · show (Vbdeaa.proper (1, 1) && decide ((0 : Int) ≤ 1)) = true; decide +kernel
    · rfl
    · rcases take_mem h3 hi with hi | rfl | hi
      · exact ihb i hi
      · rfl
      · rw [show m - 1 + 1 = m by omega] at hi
        exact ihr i hi
  | @and_ a st k r b rest y e hp _ _ ihb ihr =>
    obtain ⟨h1, h2, h3, h4, h5, rfl, rfl⟩ := and_inv hp
    intro i hi
    rcases List.mem_cons.mp hi with rfl | hi
    · rfl
    · rcases take_mem h5 hi with hi | rfl | hi
      · have g4 : (r.take k)[k - 1]? = some (.jump 1) := by rw [List.getElem?_take, if_pos (by omega), h4]
        rcases take_mem g4 hi with hi | rfl | hi
        · rw [List.take_take] at hi
          have g3 : (r.take (min (k - 1) k))[k - 2]? = some .truth := by rw [List.getElem?_take, if_pos (by omega), h3]
          rcases take_mem g3 hi with hi | rfl | hi
          · rw [List.take_take, show min (k - 2) (min (k - 1) k) = k - 2 by omega] at hi
            exact ihb i hi
          · rfl
          · rw [List.drop_eq_nil_of_le (by rw [List.length_take]; omega)] at hi
            cases hi
        · rfl
        · rw [List.drop_eq_nil_of_le (by rw [List.length_take]; omega)] at hi
          cases hi
      · show (Vbdeaa.proper (0, 1) && decide ((0 : Int) ≤ 0)) = true; decide +kernel
      · exact ihr i hi
  | @if_ a st k r x y rest u v e hp _ _ _ ihx ihy ihr =>
    obtain ⟨m, h1, h2, h3, rfl, rfl, rfl⟩ := if_inv hp
    intro i hi
    rcases List.mem_cons.mp hi with rfl | hi
    · rfl
    · rcases take_mem h2 hi with hi | rfl | hi
      · exact ihx i hi
      · rfl
      · rw [show k - 1 + 1 = k by omega, ← List.take_append_drop m (r.drop k)] at hi
        rcases List.mem_append.mp hi with hi | hi
        · exact ihy i hi
        · rw [List.drop_drop] at hi
          exact ihr i hi
def hd : List Int → Option (Ins × List Int)
  | [] => none
  | 9 :: r => some (.truth, r)
  | 0 :: n :: d :: r => if d < 0 then none else some (.push (n, d.toNat), r)
  | 8 :: i :: n :: r => if i < 0 ∨ n < 0 then none else some (.call i.toNat n.toNat, r)
  | k :: n :: r => match Vbdeaa.one k n with
    | none => none
    | some i => some (i, r)
  | _ :: [] => none
theorem codeOf_hd {l : List Int} (h : l ≠ []) : Vbdeaa.codeOf l = (hd l).bind fun p => (Vbdeaa.codeOf p.2).map fun c => p.1 :: c := by
  unfold hd
  split
  · exact absurd rfl h
  · rw [Vbdeaa.codeOf]; rfl
  · rw [Vbdeaa.codeOf]
    split <;> rfl
  · rw [Vbdeaa.codeOf]
    split <;> rfl
  · rename_i k n r h1 h2 h3
    rw [Vbdeaa.codeOf]
    · cases Vbdeaa.one k n <;> rfl
    · exact h1
    · exact h2
    · exact h3
  · rename_i a h1
    rw [Vbdeaa.codeOf]
    · rfl
    · exact h1
theorem one_told {k n : Int} {i : Ins} (h : Vbdeaa.one k n = some i) : [k, n] = i.told := by
  unfold Vbdeaa.one at h
  split at h
  · cases h
  rename_i hn
  split at h
  · rename_i e; cases h; rw [e]; show [1, n] = [1, ((n.toNat : Nat) : Int)]; rw [Int.toNat_of_nonneg (by omega)]
  split at h
  · rename_i e; cases h; rw [e]; show [2, n] = [2, ((n.toNat : Nat) : Int)]; rw [Int.toNat_of_nonneg (by omega)]
  split at h
  · rename_i e
    obtain ⟨o, ho, rfl⟩ := Option.map_eq_some_iff.mp h
    have : ∀ (j : Nat) (o : Vbdeaa.Un), Vbdeaa.UNS[j]? = some o → (Vbdeaa.UNS.findIdx fun x => x == o) = j := by
      intro j o hj
      have hlt := (List.getElem?_eq_some_iff.mp hj).1
      have : j < 8 := hlt
      have hc : j = 0 ∨ j = 1 ∨ j = 2 ∨ j = 3 ∨ j = 4 ∨ j = 5 ∨ j = 6 ∨ j = 7 := by omega
      rcases hc with rfl | rfl | rfl | rfl | rfl | rfl | rfl | rfl <;> (cases hj; decide +kernel)
    show [k, n] = [3, ((Vbdeaa.UNS.findIdx fun x => x == o : Nat) : Int)]
    rw [this _ _ ho, e, Int.toNat_of_nonneg (by omega)]
  split at h
  · rename_i e
    obtain ⟨o, ho, rfl⟩ := Option.map_eq_some_iff.mp h
    have : ∀ (j : Nat) (o : Vbdeaa.Bin), Vbdeaa.BINS[j]? = some o → (Vbdeaa.BINS.findIdx fun x => x == o) = j := by
      intro j o hj
      have hlt := (List.getElem?_eq_some_iff.mp hj).1
      have : j < 13 := hlt
      have hc : j = 0 ∨ j = 1 ∨ j = 2 ∨ j = 3 ∨ j = 4 ∨ j = 5 ∨ j = 6 ∨ j = 7 ∨ j = 8 ∨ j = 9 ∨ j = 10 ∨ j = 11 ∨ j = 12 := by omega
      rcases hc with rfl | rfl | rfl | rfl | rfl | rfl | rfl | rfl | rfl | rfl | rfl | rfl | rfl <;> (cases hj; decide +kernel)
    show [k, n] = [4, ((Vbdeaa.BINS.findIdx fun x => x == o : Nat) : Int)]
    rw [this _ _ ho, e, Int.toNat_of_nonneg (by omega)]
  split at h
  · rename_i e; cases h; rw [e]; show [5, n] = [5, ((n.toNat : Nat) : Int)]; rw [Int.toNat_of_nonneg (by omega)]
  split at h
  · rename_i e; cases h; rw [e]; show [6, n] = [6, ((n.toNat : Nat) : Int)]; rw [Int.toNat_of_nonneg (by omega)]
  split at h
  · rename_i e; cases h; rw [e]; show [7, n] = [7, ((n.toNat : Nat) : Int)]; rw [Int.toNat_of_nonneg (by omega)]
  split at h
  · rename_i e
    split at h
    · rename_i e2; cases h; rw [e, e2]; rfl
    · split at h
      · rename_i e2; cases h; rw [e, e2]; rfl
      · cases h
  · cases h
theorem hd_told {l r : List Int} {i : Ins} (h : hd l = some (i, r)) : l = i.told ++ r := by
  unfold hd at h
  split at h
  · cases h
  · cases h; rfl
  · split at h
    · cases h
    · rename_i n d r' hd'
      cases h
      show 0 :: n :: d :: r = [0, n, ((d.toNat : Nat) : Int)] ++ r
      rw [Int.toNat_of_nonneg (by omega)]
      rfl
  · split at h
    · cases h
    · rename_i a n r' hd'
      cases h
      show 8 :: a :: n :: r = [8, ((a.toNat : Nat) : Int), ((n.toNat : Nat) : Int)] ++ r
      rw [Int.toNat_of_nonneg (by omega), Int.toNat_of_nonneg (by omega)]
      rfl
  · split at h
    · cases h
    · rename_i i' ho
      cases h
      rw [← one_told ho]
      rfl
  · cases h
theorem told_pos (i : Ins) : 1 ≤ i.told.length := by cases i <;> simp [Vbdeaa.Ins.told]
def Cut (n : Nat) (l : List Int) (c : Code) : Prop := Vbdeaa.codeOf l = some c ∧ ∀ i ∈ c, insOk n i = true
theorem cut_nil {n : Nat} : Cut n [] [] := ⟨rfl, fun i h => by cases h⟩
theorem cut_cons {n : Nat} {l r : List Int} {i : Ins} {c : Code} (h : hd l = some (i, r)) (hi : insOk n i = true) (hc : Cut n r c) : Cut n l (i :: c) := by
  refine ⟨?_, ?_⟩
  · rw [codeOf_hd (fun z => by rw [z] at h; cases h), h]
    simp only [Option.bind_some, hc.1, Option.map_some]
  · intro j hj
    rcases List.mem_cons.mp hj with rfl | hj
    · exact hi
    · exact hc.2 j hj
theorem cut_inv {n : Nat} {l : List Int} {c : Code} (hl : l ≠ []) (h : Cut n l c) : ∃ i r c', hd l = some (i, r) ∧ insOk n i = true ∧ Cut n r c' ∧ c = i :: c' := by
  obtain ⟨h1, h2⟩ := h
  rw [codeOf_hd hl] at h1
  obtain ⟨⟨i, r⟩, h3, h4⟩ := Option.bind_eq_some_iff.mp h1
  obtain ⟨c', h5, h6⟩ := Option.map_eq_some_iff.mp h4
  subst h6
  exact ⟨i, r, c', h3, h2 _ List.mem_cons_self, ⟨h5, fun j hj => h2 j (List.mem_cons_of_mem _ hj)⟩, rfl⟩
theorem expOf_cut {n : Nat} {l : List Int} {c : Code} (h : Cut n l c) : Vbdeam.expOf n l = Vbdeam.tree n c := by
  unfold Vbdeam.expOf
  rw [h.1]
  rfl
theorem expOf_none {n : Nat} {l : List Int} (h : ∀ c, ¬ Cut n l c) : Vbdeam.expOf n l = none := by
  unfold Vbdeam.expOf
  cases hc : Vbdeaa.codeOf l with
  | none => rfl
  | some c =>
    show Vbdeam.tree n c = none
    cases ht : Vbdeam.tree n c with
    | none => rfl
    | some e => exact absurd ⟨hc, run_ok (tree_run.mp ht)⟩ (h c)
end MX
end
section
set_option linter.all false
namespace MX
open Vbdeaa (Exp Exps Ins Code)
open Vbdeam (plain orParts andParts ifParts jumpOf isOne isZeroIns isTruthIns parse size sizeAll joinBest)
def belowAll : List Ch → List Exp
  | [] => []
  | x :: r => x.below ++ belowAll r
def sumS : List Exp → Nat
  | [] => 0
  | e :: l => size e + sumS l
theorem sumS_append (a b : List Exp) : sumS (a ++ b) = sumS a + sumS b := by
  induction a with
  | nil => simp [sumS]
  | cons x r ih => simp only [List.cons_append, sumS, ih]; omega
theorem size_pos (e : Exp) : 1 ≤ size e := by cases e <;> simp only [Vbdeam.size] <;> omega
theorem length_sumS (l : List Exp) : l.length ≤ sumS l := by
  induction l with
  | nil => exact Nat.le_refl _
  | cons x r ih => have := size_pos x; simp only [List.length_cons, sumS]; omega
def chS (x : Ch) : Nat := size x.cond + (match x.first with | none => 0 | some f => size f) + sumS x.below
def chsS : List Ch → Nat
  | [] => 0
  | x :: r => chS x + chsS r
def Siz (s : MS) : Prop := sumS s.cur + chsS s.chs + s.chs.length ≤ s.pos
theorem exps_size (l : List Exp) : sizeAll (Vbdeam.exps l) = sumS l := by
  induction l with
  | nil => rfl
  | cons x r ih => show size x + sizeAll (Vbdeam.exps r) = size x + sumS r; rw [ih]
theorem join_size (g : Bool) (x y : Exp) : size (joinBest g x y) ≤ size x + size y + 1 := by
  unfold Vbdeam.joinBest
  split
  · split <;> simp only [Vbdeam.size, Vbdeam.sizeAll] <;> omega
  · simp only [Vbdeam.size, Vbdeam.sizeAll]
    omega
theorem sumS_reverse (l : List Exp) : sumS l.reverse = sumS l := by
  induction l with
  | nil => rfl
  | cons x r ih => rw [List.reverse_cons, sumS_append, ih]; simp only [sumS]; omega
theorem plain_size {n : Nat} {i : Ins} {st t : List Exp} (h : plain n i st = some t) : sumS t ≤ sumS st + 1 := by
  cases i with
  | push q =>
    unfold Vbdeam.plain at h; simp only at h
    split at h
    · cases h; simp only [sumS, Vbdeam.size]; omega
    · cases h
  | arg k =>
    unfold Vbdeam.plain at h; simp only at h
    split at h
    · cases h; simp only [sumS, Vbdeam.size]; omega
    · cases h
  | var k =>
    unfold Vbdeam.plain at h; simp only at h
    obtain ⟨x, hx, e⟩ := Option.map_eq_some_iff.mp h
    subst e
    simp only [sumS, Vbdeam.size]; omega
  | un o =>
    cases st with
    | nil => cases h
    | cons x st => cases h; simp only [sumS, Vbdeam.size]; omega
  | bin o =>
    match st, h with
    | y :: x :: st, h => cases h; simp only [sumS, Vbdeam.size]; omega
  | table k =>
    cases st with
    | nil => cases h
    | cons x st =>
      unfold Vbdeam.plain at h; simp only at h
      split at h
      · cases h; simp only [sumS, Vbdeam.size, Vbdeam.sizeAll]; omega
      · cases h
  | call f m =>
    unfold Vbdeam.plain at h; simp only at h
    split at h
    · cases h
    · split at h
      · cases h; simp only [sumS, Vbdeam.size]; omega
      · cases h
        simp only [sumS, Vbdeam.size, exps_size, sumS_reverse]
        have := sumS_append (st.take m) (st.drop m)
        rw [List.take_append_drop] at this
        omega
  | best g =>
    match st, h with
    | y :: x :: st, h => cases h; have := join_size g x y; simp only [sumS]; omega
  | zero k => rw [plain_zero] at h; cases h
  | jump k => rw [plain_jump] at h; cases h
  | truth => rw [plain_truth] at h; cases h
theorem settle_siz : ∀ {chs : List Ch} {p : Nat} {cur : List Exp} {t : MS}, sumS cur + chsS chs + chs.length ≤ p → settle p cur chs = some t → Siz t
  | [], p, cur, t, h, e => by cases e; exact h
  | x :: r, p, cur, t, h, e => by
    unfold settle at e
    split at e
    · split at e
      · rename_i e1 f hf
        refine settle_siz ?_ e
        simp only [chsS, chS, hf, sumS, List.length_cons, Vbdeam.size] at h ⊢
        omega
      · cases e
    · cases e
      exact h
theorem core_siz {n : Nat} {c : Code} {s t : MS} {i : Ins} (w : WF c s) (z : Siz s) (h : core n c i s = some t) : sumS t.cur + chsS t.chs + t.chs.length ≤ t.pos := by
  have z' : sumS s.cur + chsS s.chs + s.chs.length ≤ s.pos := z
  have pc : ∀ st, plain n i s.cur = some st → t = ⟨s.pos + 1, st, s.chs⟩ → sumS t.cur + chsS t.chs + t.chs.length ≤ t.pos := by
    rintro st hst rfl
    have := plain_size hst
    simp only
    omega
  cases i with
  | zero k =>
    unfold core begin_ at h
    simp only at h
    split at h
    · cases h
    · rename_i a st hcur
      split at h
      · cases h
      · split at h
        · cases h
        · cases h
          rw [hcur] at z'
          simp only [sumS, chsS, chS, List.length_cons] at z' ⊢
          omega
  | jump k =>
    unfold core jump at h
    simp only at h
    split at h
    · rename_i e1 x r hcur hs
      split at h
      · cases h
        rw [hcur, hs] at z'
        simp only [sumS, chsS, chS, List.length_cons] at z' ⊢
        omega
      · cases h
    · cases h
  | truth =>
    unfold core nine at h
    simp only at h
    split at h
    · rename_i e1 x r hcur hs
      rw [hcur, hs] at z'
      simp only [sumS, chsS, chS, List.length_cons] at z'
      have hc := w.chain
      rw [hs] at hc
      obtain ⟨h1, h2, h3, h4, h5, h6⟩ := hc
      split at h
      · split at h
        · rename_i hc; cases h; simp only [sumS, Vbdeam.size]; omega
        · cases h
      · rename_i f hf
        rw [hf] at z'
        split at h
        · rename_i hc; cases h; simp only [sumS, Vbdeam.size]; omega
        · cases h
    · cases h
  | push q => unfold core at h; simp only at h; obtain ⟨st, e1, e2⟩ := Option.map_eq_some_iff.mp h; exact pc st e1 e2.symm
  | arg q => unfold core at h; simp only at h; obtain ⟨st, e1, e2⟩ := Option.map_eq_some_iff.mp h; exact pc st e1 e2.symm
  | var q => unfold core at h; simp only at h; obtain ⟨st, e1, e2⟩ := Option.map_eq_some_iff.mp h; exact pc st e1 e2.symm
  | un q => unfold core at h; simp only at h; obtain ⟨st, e1, e2⟩ := Option.map_eq_some_iff.mp h; exact pc st e1 e2.symm
  | bin q => unfold core at h; simp only at h; obtain ⟨st, e1, e2⟩ := Option.map_eq_some_iff.mp h; exact pc st e1 e2.symm
  | table q => unfold core at h; simp only at h; obtain ⟨st, e1, e2⟩ := Option.map_eq_some_iff.mp h; exact pc st e1 e2.symm
  | call q q' => unfold core at h; simp only at h; obtain ⟨st, e1, e2⟩ := Option.map_eq_some_iff.mp h; exact pc st e1 e2.symm
  | best q => unfold core at h; simp only at h; obtain ⟨st, e1, e2⟩ := Option.map_eq_some_iff.mp h; exact pc st e1 e2.symm
theorem siz_init : Siz ⟨0, [], []⟩ := Nat.le_refl _
theorem step_siz {n : Nat} {c : Code} {s t : MS} (w : WF c s) (z : Siz s) (h : step n c s = some t) : Siz t := by
  unfold step at h
  split at h
  · cases h
  · rename_i i hi
    obtain ⟨u, hu, ht⟩ := Option.bind_eq_some_iff.mp h
    exact settle_siz (core_siz w z hu) ht
theorem run_size {n : Nat} {c : Code} {e : Exp} (h : Run n c [] e) : size e ≤ c.length := by
  have key : ∀ {s t : MS}, Reach n c s t → WF c s → Siz s → WF c t ∧ Siz t := by
    intro s t r
    induction r with
    | refl s => exact fun w z => ⟨w, z⟩
    | step a _ ih => exact fun w z => ih (step_wf w a) (step_siz w z a)
  have := (key (run_reach h) (wf_init c) siz_init).2
  have this : sumS [e] + chsS [] + 0 ≤ c.length := this
  simp only [sumS, chsS] at this
  omega
theorem belowAll_S : ∀ (chs : List Ch), sumS (belowAll chs) ≤ chsS chs
  | [] => Nat.le_refl _
  | x :: r => by
    have := belowAll_S r
    simp only [belowAll, sumS_append, chsS, chS]
    omega
end MX
end
section
set_option Elab.async false
set_option maxRecDepth 100000
set_option maxHeartbeats 4000000
set_option linter.all false
namespace SB
open PySem PySem.Spec PyProof.Rows L2 XL
open Vbdeaa (Text Exp Exps Un Bin Ins Code)
open MX (insOk hd Cut)
def nameFits (k : Nat) : Bool := decide (nameRead (k : Int) = txS ((Vbdeam.readName k).getD [])) && (((Vbdeam.readName k).isSome == !decide (nameRead (k : Int) = "")) && (Vbdeam.readName k).all fun t => Vbdeaa.isName t && t.all fun c => decide (0 ≤ c))
theorem names_fit : ((List.range 960).all nameFits) = true := by decide +kernel
theorem name_fits {k : Nat} (h : k < 960) : nameFits k = true := List.all_eq_true.mp names_fit k (List.mem_range.mpr h)
theorem nameRead_out {n : Int} (h : n < 0 ∨ 960 ≤ n) : nameRead n = "" := by
  unfold nameRead
  have h1 : ALONE.find? (fun p => decide (p.2 = n)) = none := by
    rw [List.find?_eq_none]
    intro p hp
    simp only [ALONE, List.mem_cons, List.not_mem_nil, or_false] at hp
    rcases hp with rfl | rfl | rfl | rfl | rfl | rfl | rfl <;> simp only [decide_eq_true_eq] <;> omega
  have h2 : ROWS.find? (rowHas n) = none := by
    rw [List.find?_eq_none]
    intro p hp
    simp only [ROWS, List.mem_cons, List.not_mem_nil, or_false] at hp
    rcases hp with rfl | rfl | rfl | rfl | rfl | rfl | rfl | rfl | rfl | rfl | rfl | rfl <;> simp only [rowHas, Bool.and_eq_true, decide_eq_true_eq] <;> omega
  rw [h1, h2]
theorem readName_out {k : Nat} (h : 960 ≤ k) : Vbdeam.readName k = none := by
  unfold Vbdeam.readName
  have : 15 ≤ k / 64 := by omega
  generalize k / 64 = j at this
  simp only
  split <;> first | omega | rfl
theorem name_read {k : Nat} {t : Text} (h : Vbdeam.readName k = some t) : nameRead (k : Int) = txS t ∧ Vbdeaa.isName t = true ∧ ∀ c ∈ t, 0 ≤ c := by
  by_cases hk : k < 960
  · have := name_fits hk
    unfold nameFits at this
    rw [h] at this
    simp only [Option.getD_some, Option.isSome_some, Option.all_some, Bool.and_eq_true, decide_eq_true_eq] at this
    refine ⟨this.1, this.2.2.1, fun c hc => ?_⟩
    have := List.all_eq_true.mp this.2.2.2 c hc
    exact of_decide_eq_true this
  · rw [readName_out (by omega)] at h
    cases h
theorem name_some (n : Int) : (nameRead n = "") ↔ ¬ (0 ≤ n ∧ (Vbdeam.readName n.toNat).isSome = true) := by
  by_cases h : n < 0 ∨ 960 ≤ n
  · refine ⟨fun _ z => ?_, fun _ => nameRead_out h⟩
    rcases h with h | h
    · omega
    · rw [readName_out (by omega)] at z
      exact absurd z.2 (by decide)
  · obtain ⟨k, rfl⟩ : ∃ k : Nat, n = k := ⟨n.toNat, by omega⟩
    have := name_fits (k := k) (by omega)
    unfold nameFits at this
    simp only [Bool.and_eq_true] at this
    have h2 := this.2.1
    rw [Int.toNat_natCast]
    cases hs : (Vbdeam.readName k).isSome with
    | true =>
      rw [hs] at h2
      refine ⟨fun z => ?_, fun z => absurd ⟨by omega, rfl⟩ z⟩
      rw [decide_eq_true z] at h2
      cases h2
    | false =>
      rw [hs] at h2
      refine ⟨fun z y => absurd y.2 (by decide), fun z => ?_⟩
      by_cases q : nameRead (k : Int) = ""
      · exact q
      · rw [decide_eq_false q] at h2
        cases h2
end SB
end
section
set_option Elab.async false
set_option maxRecDepth 100000
set_option maxHeartbeats 4000000
set_option linter.all false
namespace SB
open PySem PySem.Spec PyProof.Rows L2 XL
open Vbdeaa (Text Exp Exps Un Bin Ins Code)
open MX (insOk hd Cut)
theorem pair_proper {q : Vbdeaa.Q} : pairB q.1 (q.2 : Nat) = insOk 0 (.push q) := by
  obtain ⟨n, d⟩ := q
  show (decide (0 ≤ n ∧ 1 ≤ (d : Int) ∧ n ≤ 1000000000000000000 ∧ (d : Int) ≤ 1000000000000000000) && (Nat.gcd n.toNat ((d : Int)).toNat == 1)) = ((decide (n.natAbs ≤ Vbdeaa.B) && (decide (1 ≤ d) && decide (d ≤ Vbdeaa.B)) && Nat.gcd n.natAbs d == 1) && decide (0 ≤ n))
  have hB : Vbdeaa.B = 1000000000000000000 := by decide +kernel
  rw [hB, Int.toNat_natCast]
  by_cases h0 : 0 ≤ n
  · rw [show n.toNat = n.natAbs by omega, decide_eq_true h0, Bool.and_true]
    congr 1
    rw [Bool.eq_iff_iff]
    simp only [Bool.and_eq_true, decide_eq_true_eq]
    omega
  · rw [decide_eq_false h0, Bool.and_false, decide_eq_false (p := 0 ≤ n ∧ _) (fun z => h0 z.1), Bool.false_and]
theorem lens_told (i : Ins) : Shape i.told := by
  cases i with
  | push q => exact ⟨0, rfl, by decide, rfl⟩
  | arg q => exact ⟨1, rfl, by decide, rfl⟩
  | var q => exact ⟨2, rfl, by decide, rfl⟩
  | un q => exact ⟨3, rfl, by decide, rfl⟩
  | bin q => exact ⟨4, rfl, by decide, rfl⟩
  | jump q => exact ⟨5, rfl, by decide, rfl⟩
  | zero q => exact ⟨6, rfl, by decide, rfl⟩
  | table q => exact ⟨7, rfl, by decide, rfl⟩
  | call q r => exact ⟨8, rfl, by decide, rfl⟩
  | truth => exact ⟨9, rfl, by decide, rfl⟩
  | best q => exact ⟨10, rfl, by decide, rfl⟩
theorem right_two {n f k : Int} (h2 : f ≠ 2) : rightB n [f, k] = (decide (0 ≤ k) && (decide (f = 5 ∨ f = 6) || decide (k < choicesI f n))) := by
  unfold rightB
  split
  · rename_i h; cases h
  · rename_i h; injection h with h _; exact absurd h h2
  · rename_i h; cases h
  · rename_i h; cases h
  · rename_i h; cases h; rfl
  · rename_i h1 h2 h3 h4 h5; exact absurd rfl (h5 f k)
theorem right_told {n : Nat} (i : Ins) : rightB n i.told = insOk n i := by
  cases i with
  | push q => exact pair_proper
  | arg k =>
    show rightB n [1, (k : Int)] = decide (k < n)
    rw [right_two (by decide), decide_eq_true (show (0 : Int) ≤ k by omega), show choicesI 1 n = n from rfl]
    simp
  | var k =>
    show (!decide (nameRead (k : Int) = "")) = (Vbdeam.readName k).isSome
    have := name_some (k : Int)
    rw [Int.toNat_natCast] at this
    cases hs : (Vbdeam.readName k).isSome with
    | true => rw [decide_eq_false (fun z => (this.mp z) ⟨by omega, hs⟩)]; rfl
    | false => rw [decide_eq_true (this.mpr (fun z => by rw [hs] at z; exact absurd z.2 (by decide)))]; rfl
  | un o => cases o <;> (show rightB n [3, _] = true; rw [right_two (by decide)]; rfl)
  | bin o => cases o <;> (show rightB n [4, _] = true; rw [right_two (by decide)]; rfl)
  | jump k =>
    show rightB n [5, (k : Int)] = true
    rw [right_two (by decide), decide_eq_true (show (0 : Int) ≤ k by omega)]
    rfl
  | zero k =>
    show rightB n [6, (k : Int)] = true
    rw [right_two (by decide), decide_eq_true (show (0 : Int) ≤ k by omega)]
    rfl
  | table k =>
    show rightB n [7, (k : Int)] = decide (k < 64)
    rw [right_two (by decide), decide_eq_true (show (0 : Int) ≤ k by omega), show choicesI 7 n = 64 from rfl]
    simp only [Bool.true_and]
    rw [decide_eq_false (by decide), Bool.false_or]
    exact decide_eq_decide.mpr ⟨fun z => by omega, fun z => by omega⟩
  | call f m =>
    show (decide (0 ≤ (f : Int) ∧ (f : Int) < 64) && decide (0 ≤ (m : Int) ∧ (m : Int) ≤ 8)) = (decide (f < 64) && decide (m ≤ 8))
    congr 1
    · exact decide_eq_decide.mpr ⟨fun z => by omega, fun z => by omega⟩
    · exact decide_eq_decide.mpr ⟨fun z => by omega, fun z => by omega⟩
  | truth => rfl
  | best g => cases g <;> (show rightB n [10, _] = true; rw [right_two (by decide)]; rfl)
theorem hd_right {n : Nat} {row : List Int} (h : Shape row) (hr : rightB n row = true) : ∃ i, row = i.told ∧ insOk n i = true ∧ ∀ r, hd (row ++ r) = some (i, r) := by
  obtain ⟨i, hi, hh⟩ : ∃ i, row = i.told ∧ ∀ r, hd (row ++ r) = some (i, r) := by
    have twoCase : ∀ (f a : Int) (i : Ins), f ≠ 9 → Vbdeaa.one f a = some i → ∀ r, hd ([f, a] ++ r) = some (i, r) := fun f a i h9 ho r => by
      show hd (f :: a :: r) = some (i, r)
      have h0 : f ≠ 0 := fun z => by subst z; unfold Vbdeaa.one at ho; split at ho <;> simp at ho
      have h8 : f ≠ 8 := fun z => by subst z; unfold Vbdeaa.one at ho; split at ho <;> simp at ho
      unfold hd
      split
      · rename_i z; cases z
      · rename_i z; injection z with z _; exact absurd z h9
      · rename_i z; injection z with z _; exact absurd z h0
      · rename_i z; injection z with z _; exact absurd z h8
      · rename_i z; cases z; rw [ho]
      · rename_i z; cases z
    have two : ∀ (f a : Int) (i : Ins), f ≠ 9 → Vbdeaa.one f a = some i → ∃ i, [f, a] = i.told ∧ ∀ r, hd ([f, a] ++ r) = some (i, r) := fun f a i h9 ho => ⟨i, MX.one_told ho, twoCase f a i h9 ho⟩
    obtain ⟨f, hf0, hf1, hf2⟩ := id h
    rcases shape_cases h with ⟨a, b, rfl⟩ | ⟨a, rfl⟩ | ⟨a, b, rfl⟩ | rfl | ⟨f0, a, rfl, n0, n2, n8, n9⟩
    · have hp : pairB a b = true := hr
      unfold pairB at hp
      simp only [Bool.and_eq_true, decide_eq_true_eq] at hp
      refine ⟨.push (a, b.toNat), by show [0, a, b] = [0, a, ((b.toNat : Nat) : Int)]; rw [Int.toNat_of_nonneg (by omega)], fun r => ?_⟩
      show (if b < 0 then none else some (Ins.push (a, b.toNat), r)) = _
      rw [if_neg (by omega)]
    · have hp : (!decide (nameRead a = "")) = true := hr
      have hn : ¬ nameRead a = "" := by simpa using hp
      have h0 : 0 ≤ a := Classical.byContradiction fun z => hn ((name_some a).mpr fun y => z y.1)
      exact two 2 a (.var a.toNat) (by decide) (by unfold Vbdeaa.one; rw [if_neg (by omega)]; rfl)
    · have hp : (decide (0 ≤ a ∧ a < 64) && decide (0 ≤ b ∧ b ≤ 8)) = true := hr
      simp only [Bool.and_eq_true, decide_eq_true_eq] at hp
      refine ⟨.call a.toNat b.toNat, by show [8, a, b] = [8, ((a.toNat : Nat) : Int), ((b.toNat : Nat) : Int)]; rw [Int.toNat_of_nonneg (by omega), Int.toNat_of_nonneg (by omega)], fun r => ?_⟩
      show (if a < 0 ∨ b < 0 then none else some (Ins.call a.toNat b.toNat, r)) = _
      rw [if_neg (by omega)]
    · exact ⟨.truth, rfl, fun r => rfl⟩
    · have hf : f0 = (f : Int) := Option.some.inj hf0
      rw [right_two n2] at hr
      simp only [Bool.and_eq_true, Bool.or_eq_true, decide_eq_true_eq] at hr
      obtain ⟨ha, hr⟩ := hr
      have hc : f = 1 ∨ f = 3 ∨ f = 4 ∨ f = 5 ∨ f = 6 ∨ f = 7 ∨ f = 10 := by omega
      have na : ¬ a < 0 := by omega
      rcases hc with rfl | rfl | rfl | rfl | rfl | rfl | rfl <;> subst hf
      · exact two 1 a (.arg a.toNat) (by decide) (by unfold Vbdeaa.one; rw [if_neg na]; rfl)
      · have h8 : a < 8 := by
          rcases hr with hr | hr
          · omega
          · exact hr
        obtain ⟨o, ho⟩ : ∃ o, Vbdeaa.UNS[a.toNat]? = some o := ⟨_, List.getElem?_eq_getElem (show a.toNat < Vbdeaa.UNS.length from by show a.toNat < 8; omega)⟩
        exact two 3 a (.un o) (by decide) (by unfold Vbdeaa.one; rw [if_neg na]; show (Vbdeaa.UNS[a.toNat]?).map Ins.un = _; rw [ho]; rfl)
      · have h8 : a < 13 := by
          rcases hr with hr | hr
          · omega
          · exact hr
        obtain ⟨o, ho⟩ : ∃ o, Vbdeaa.BINS[a.toNat]? = some o := ⟨_, List.getElem?_eq_getElem (show a.toNat < Vbdeaa.BINS.length from by show a.toNat < 13; omega)⟩
        exact two 4 a (.bin o) (by decide) (by unfold Vbdeaa.one; rw [if_neg na]; show (Vbdeaa.BINS[a.toNat]?).map Ins.bin = _; rw [ho]; rfl)
      · exact two 5 a (.jump a.toNat) (by decide) (by unfold Vbdeaa.one; rw [if_neg na]; rfl)
      · exact two 6 a (.zero a.toNat) (by decide) (by unfold Vbdeaa.one; rw [if_neg na]; rfl)
      · exact two 7 a (.table a.toNat) (by decide) (by unfold Vbdeaa.one; rw [if_neg na]; rfl)
      · have h8 : a < 2 := by
          rcases hr with hr | hr
          · omega
          · exact hr
        have : a = 0 ∨ a = 1 := by omega
        rcases this with rfl | rfl
        · exact two 10 0 (.best false) (by decide) rfl
        · exact two 10 1 (.best true) (by decide) rfl
  exact ⟨i, hi, by rw [← right_told, ← hi]; exact hr, hh⟩
end SB
end
section
set_option Elab.async false
set_option maxRecDepth 100000
set_option maxHeartbeats 4000000
set_option linter.all false
namespace SB
open PySem PySem.Spec PyProof.Rows L2 XL
open Vbdeaa (Text Exp Exps Un Bin Ins)
open MX (insOk hd Cut)
structure XC (P : Program) (w : World) (K : PySem.W.Frag) (mg : Str → Option Value) (base : Heap) (x : Str) (C fI : Addr) (fd : FuncData) (n : Int) : Prop where
  made : XMk K C fI
  cls : XCls K C
  m : mg x = some (.ref C)
  b : Binds K fd ["self"] []
  ok : FnOk P w K mg base (CXr P w) 2 fI fd ["self"] (spI K n)
def RaiseC (C : Addr) (n : Int) (H : Hp) (E : XK) : Prop := ∀ e d H', Same H H' → H' e = some (exO e C d) → H' d = some (.xd [("number", .int n)]) → E (.ref C) (some d) H'
theorem RaiseC.mono {C : Addr} {n : Int} {H H1 : Hp} {E : XK} (s : Same H H1) (h : RaiseC C n H E) : RaiseC C n H1 E := fun e d H' s' h1 h2 => h e d H' (s.trans s') h1 h2
theorem RaiseC.go {C : Addr} {n : Int} {H : Hp} {E : XK} {D : Ends} {σ : L2.St} (h : RaiseC C n H E) : tRaise C n E D σ H := fun e d H' s' h1 h2 => h e d H' s' h1 h2
def rowsT (c : Vbdeaa.Code) : List (List Int) := c.map Ins.told
def RowsAt (H : Hp) (c : Vbdeaa.Code) (ts : List Addr) : Prop := Paired (fun row t => H t = some (.tup (vI row))) (rowsT c) ts
theorem RowsAt.same {H H' : Hp} {c : Vbdeaa.Code} {ts : List Addr} (s : Same H H') (h : RowsAt H c ts) : RowsAt H' c ts := paired_mem h fun _ _ _ q => s _ _ q
def spIns (K : PySem.W.Frag) (Cn : Addr) : Sp := fun vs H Q E => ∃ (l : Addr) (n : Nat) (code : List Int), vs = [.ref l, .int n] ∧ SqL K H l (vI code) ∧ code.length ≤ 1000 ∧
  (∀ c, Cut n code c → ∀ R ts H', H R = none → Same H H' → H' R = some (.lst (ts.map V.ref)) → RowsAt H' c ts → R ∉ ts → Q (.ref R) H') ∧ ((∀ c, ¬ Cut n code c) → RaiseC Cn (-3) H E)
abbrev sIns : Stmt := top 59
theorem cut_nat {xs : List V} {a k : Nat} : cutV xs (some (a : Int)) (some ((a + k : Nat) : Int)) = (xs.drop a).take k := by
  unfold cutV
  rw [HT.sIx_nat, HT.sIx_nat]
  by_cases h : a ≤ xs.length
  · rw [Nat.min_eq_left h]
    by_cases h2 : a + k ≤ xs.length
    · rw [Nat.min_eq_left h2]
      congr 1
      omega
    · rw [Nat.min_eq_right (by omega), List.take_of_length_le (by rw [List.length_drop]; omega), List.take_of_length_le (by rw [List.length_drop]; omega)]
  · rw [List.drop_eq_nil_of_le (show xs.length ≤ min a xs.length by omega), List.drop_eq_nil_of_le (show xs.length ≤ a by omega)]
    simp
theorem vI_drop (l : List Int) (k : Nat) : (vI l).drop k = vI (l.drop k) := List.map_drop.symm
theorem vI_take (l : List Int) (k : Nat) : (vI l).take k = vI (l.take k) := List.map_take.symm
theorem vI_length (l : List Int) : (vI l).length = l.length := List.length_map ..
theorem vI_get (l : List Int) (k : Nat) : (vI l)[k]? = (l[k]?).map V.int := List.getElem?_map ..
section
variable {P : Program} {w : World} {K : PySem.W.Frag} {mg : Str → Option Value} {base : Heap}
theorem scIns : FnScope ["code", "n", "rows", "at", "row"] ["code", "n"] (defScope sIns) := ⟨rfl, rfl, rfl, by decide +kernel, rfl, by decide +kernel, by decide +kernel⟩
theorem ok_ins {f fR Cn fI : Addr} {fd dR dI : FuncData} (F : Fn K mg "instructions_in" sIns f fd ["code", "n"]) (FR : Fn K mg "is_right_instruction" sRight fR dR ["row", "n"]) (GR : FnOk P w K mg base (CXr P w) 3 fR dR ["row", "n"] spRight) (X : XC P w K mg base "NoCode" Cn fI dI (-3)) (T : CP K mg) (R : CR K mg) :
    FnOk P w K mg base (CXr P w) 4 f fd ["code", "n"] (spIns K Cn) := by
  refine okX F.F scIns (fun vs H Q E h => ?_) (fun cdv A outer s H vs Q E hr h => ?_)
  · obtain ⟨_, _, _, rfl, _⟩ := h
    rfl
  · obtain ⟨l, n, code, rfl, hl, hlen, k, kr⟩ := h
    refine ⟨_, pss_cons (ps_set (i := 2) scIns.nd rfl (Or.inl rfl) (pe_lst pa_nil)) (pss_cons (ps_set (i := 3) scIns.nd rfl (Or.inl rfl) pe_int)
      (pss_cons (ps_while pown (pt_cmpR op_lt (pv 3) (pe_callB call_len_seq (by rfl) T.len (by decide +kernel) (pa_cons (pv 0) pa_nil)) (nomark _))
        (pss_cons (ps_if (pt_not ((pt_chain op_le op_lt pe_int (pe_ix ix_list (pv 0) (pv 3) (fun _ _ => rfl)) (pe_glen rfl rfl T.len R.LE)))) (pss_one (ps_raise X.made X.cls X.ok hr rfl X.m X.b rfl throws_of)) pss_nil)
        (pss_cons (ps_set (i := 4) scIns.nd rfl (Or.inl rfl) (pe_callTy call_tuple_of (by rfl) R.tuple (by decide +kernel) (pa_cons (pe_slice sl_list (pv 0) (po_some (pv 3)) (po_some (pe_op op_add (pv 3) (pe_gix rfl R.LE (pe_ix ix_list (pv 0) (pv 3) (fun _ _ => rfl)) (fun _ _ => rfl))))) pa_nil)))
        (pss_cons (ps_if (PW.pt (pw_or (pt_cmpR op_lt (pe_callB call_len_seq (by rfl) T.len (by decide +kernel) (pa_cons (pv 4) pa_nil)) (pe_gix rfl R.LE (pe_ix ix_list (pv 0) (pv 3) (fun _ _ => rfl)) (fun _ _ => rfl)) (nomark _))
            (pw_or1 (pt_not (pt_val (pe_call GR hr rfl FR.m FR.F.kp FR.b .nil passes (pa_cons (pv 4) (pa_cons (pv 1) pa_nil)))))))) (pss_one (ps_raise X.made X.cls X.ok hr rfl X.m X.b rfl throws_of)) pss_nil)
        (pss_cons (ps_expr (pe_bm PySem.F.plainAttrs_list PySem.F.slot_list_append PySem.F.type_list_append mt_append (pv 2) (pa_cons (pv 4) pa_nil)))
        (pss_one (ps_aug (i := 3) scIns.nd rfl (Or.inl rfl) (pe_callB call_len_seq (by rfl) T.len (by decide +kernel) (pa_cons (pv 4) pa_nil)) ip_add)))))))
      (pss_one (ps_ret (pv 2))))), ?_⟩
    refine ⟨by decide, fun R0 hR0 => ?_⟩
    refine ⟨fun m σ H' => ∃ (c1 : Vbdeaa.Code) (R : Addr) (ts : List Addr) (i : Nat) (v : Option V), σ = [some (.ref l), some (.int n), some (.ref R), some (.int i), v] ∧ m = code.length - i ∧ i ≤ code.length ∧ H R = none ∧ Same H H' ∧ H' R = some (.lst (ts.map V.ref)) ∧ RowsAt H' c1 ts ∧ R ∉ ts ∧ c1.length ≤ i ∧
      (∀ c', Cut n (code.drop i) c' → Cut n code (c1 ++ c')) ∧ (∀ c, Cut n code c → ∃ c', c = c1 ++ c' ∧ Cut n (code.drop i) c'),
      ⟨code.length, [], R0, [], 0, none, rfl, by simp, Nat.zero_le _, hR0, Same.upd hR0, upd_same, .nil, by simp, Nat.le_refl _, fun c' h => h, fun c h => ⟨c, rfl, h⟩⟩, ?_⟩
    rintro m σ H' ⟨c1, R, ts, i, v, rfl, rfl, hi, hR, s1, hR1, hts, hRts, hci, kf, kb⟩
    have hl1 := Same.seq s1 hl
    refine ⟨_, rfl, _, rfl, l, _, rfl, .inl hl1, i, _, rfl, rfl, _, rfl, ?_⟩
    rw [vI_length]
    refine ite2 (fun hlt => ?_) fun hlt => ?_
    · have hlt : i < code.length := by
        have := of_decide_eq_true hlt
        omega
      obtain ⟨f0, hf0⟩ : ∃ f0, code[i]? = some f0 := ⟨_, List.getElem?_eq_getElem hlt⟩
      have hat : atI (vI code) (i : Int) = some (V.int f0) := atI_nat (by rw [vI_get, hf0]; rfl)
      have hne : code.drop i ≠ [] := fun z => by
        have := congrArg List.length z
        rw [List.length_drop] at this
        simp at this
        omega
      have hhead : (code.drop i)[0]? = some f0 := by rw [List.getElem?_drop, Nat.add_zero, hf0]
      have shape : ∀ c', Cut n (code.drop i) c' → ∃ ii r c2, hd (code.drop i) = some (ii, r) ∧ insOk n ii = true ∧ code.drop i = ii.told ++ r ∧ Cut n r c2 ∧ c' = ii :: c2 ∧ ∃ fn : Nat, f0 = fn ∧ fn < 11 ∧ LENS[fn]? = some (ii.told.length : Int) := fun c' hc' => by
        obtain ⟨ii, r, c2, h1, h2, h3, h4⟩ := MX.cut_inv hne hc'
        have h5 := MX.hd_told h1
        obtain ⟨fn, g1, g2, g3⟩ := lens_told ii
        refine ⟨ii, r, c2, h1, h2, h5, h3, h4, fn, ?_, g2, g3⟩
        have hpos := MX.told_pos ii
        rw [h5, List.getElem?_append_left (by omega), g1] at hhead
        exact (Option.some.inj hhead).symm
      have stuck : (∀ c', ¬ Cut n (code.drop i) c') → RaiseC Cn (-3) H' E := fun hno => (kr fun c hc => by
        obtain ⟨c', _, h2⟩ := kb c hc
        exact hno c' h2).mono s1
      refine ⟨fun σ' H'' => ∃ m', m' < code.length - i ∧ ∃ (c1 : Vbdeaa.Code) (R : Addr) (ts : List Addr) (i : Nat) (v : Option V), σ' = [some (.ref l), some (.int n), some (.ref R), some (.int i), v] ∧ m' = code.length - i ∧ i ≤ code.length ∧ H R = none ∧ Same H H'' ∧ H'' R = some (.lst (ts.map V.ref)) ∧ RowsAt H'' c1 ts ∧ R ∉ ts ∧ c1.length ≤ i ∧
        (∀ c', Cut n (code.drop i) c' → Cut n code (c1 ++ c')) ∧ (∀ c, Cut n code c → ∃ c', c = c1 ++ c' ∧ Cut n (code.drop i) c'), fun σ' H'' h => h, ?_⟩
      have bad : ¬ (0 ≤ f0 ∧ f0 < 11) → RaiseC Cn (-3) H' E := fun hb => stuck fun c' hc' => by
        obtain ⟨_, _, _, _, _, _, _, _, fn, g1, g2, _⟩ := shape c' hc'
        exact hb (by omega)
      refine ⟨_, rfl, _, rfl, l, _, _, _, rfl, rfl, hl1, hat, 0, f0, rfl, rfl, _, rfl, ite2 (fun h1 => ?_) fun h1 => ?_⟩
      rotate_left
      · refine ⟨_, rfl, iteT ?_⟩
        exact (bad fun z => h1 (decide_eq_true z.1)).go
      have h1 : 0 ≤ f0 := of_decide_eq_true h1
      refine ⟨f0, 11, rfl, rfl, _, rfl, ?_⟩
      by_cases h2 : f0 < 11
      rotate_left
      · rw [decide_eq_false h2]
        exact iteT (bad fun z => h2 z.2).go
      rw [decide_eq_true h2]
      refine iteF ?_
      obtain ⟨fn, rfl⟩ : ∃ fn : Nat, f0 = fn := ⟨f0.toNat, by omega⟩
      obtain ⟨ln, hln⟩ : ∃ ln : Nat, LENS[fn]? = some (ln : Int) := by
        have : fn < 11 := by omega
        have hc : fn = 0 ∨ fn = 1 ∨ fn = 2 ∨ fn = 3 ∨ fn = 4 ∨ fn = 5 ∨ fn = 6 ∨ fn = 7 ∨ fn = 8 ∨ fn = 9 ∨ fn = 10 := by omega
        rcases hc with rfl | rfl | rfl | rfl | rfl | rfl | rfl | rfl | rfl | rfl | rfl
        · exact ⟨3, rfl⟩
        · exact ⟨2, rfl⟩
        · exact ⟨2, rfl⟩
        · exact ⟨2, rfl⟩
        · exact ⟨2, rfl⟩
        · exact ⟨2, rfl⟩
        · exact ⟨2, rfl⟩
        · exact ⟨2, rfl⟩
        · exact ⟨3, rfl⟩
        · exact ⟨1, rfl⟩
        · exact ⟨2, rfl⟩
      have hal : atI LENS (fn : Int) = some (ln : Int) := atI_nat hln
      refine ⟨_, rfl, _, rfl, _, rfl, _, rfl, _, rfl, _, rfl, l, _, _, _, rfl, rfl, hl1, hat, _, _, rfl, hal, _, _, rfl, rfl, _, rfl, l, _, rfl, hl1, fun p1 hp1 => ?_⟩
      rw [show (i : Int) + (ln : Int) = ((i + ln : Nat) : Int) by omega, cut_nat, vI_drop, vI_take]
      have s2 : Same H' (L2.upd H' p1 (.lst (vI ((code.drop i).take ln)))) := Same.upd hp1
      refine ⟨p1, _, rfl, .inl ⟨SqL.of upd_same, fun t ht => ?_⟩⟩
      have s3 := s2.trans (Same.upd (o := .tup (vI ((code.drop i).take ln))) ht)
      generalize hrow : (code.drop i).take ln = row at *
      have hrl : row.length ≤ ln := by rw [← hrow, List.length_take]; omega
      have hrl2 : row.length ≤ code.length - i := by rw [← hrow, List.length_take, List.length_drop]; omega
      have tup := SqT.of (K := K) (upd_same (H := L2.upd H' p1 (.lst (vI row))) (a := t) (o := .tup (vI row)))
      refine ⟨_, rfl, t, _, rfl, .inr tup, _, rfl, _, rfl, l, _, _, _, rfl, rfl, (Same.seq s3 hl1), hat, _, _, rfl, hal, _, _, rfl, rfl, _, rfl, ?_⟩
      rw [vI_length]
      refine ite2 (fun h3 => iteT ?_) fun h3 => ?_
      · have h3 : (row.length : Int) < ln := of_decide_eq_true h3
        refine ((stuck fun c' hc' => ?_).mono s3).go
        obtain ⟨ii, r, _, _, _, h5, _, _, fn', g1, _, g3⟩ := shape c' hc'
        have : fn' = fn := by omega
        subst this
        rw [hln] at g3
        have g4 : ln = ii.told.length := by
          have := Option.some.inj g3
          omega
        rw [h5, g4, List.take_left] at hrow
        rw [← hrow] at h3
        omega
      have hrow3 : row.length = ln := by
        have : ¬ ((row.length : Int) < ln) := fun z => h3 (decide_eq_true z)
        omega
      have hln0 : 1 ≤ ln := by
        have hall : ∀ x ∈ LENS, 1 ≤ x := by decide
        have := hall _ (List.mem_of_getElem? hln)
        omega
      have hsh : Shape row := by
        refine ⟨fn, ?_, by omega, by rw [hrow3]; exact hln⟩
        rw [← hrow, List.getElem?_take, if_pos (by omega), hhead]
      have hdrop : code.drop i = row ++ code.drop (i + ln) := by rw [← hrow, ← List.drop_drop, List.take_append_drop]
      refine ⟨_, rfl, _, rfl, t, row, n, rfl, upd_same, hsh, fun H4 s4 => ?_⟩
      have s5 := s3.trans s4
      refine ⟨_, rfl, ?_⟩
      cases hrb : rightB n row with
      | false =>
        refine iteT ((stuck fun c' hc' => ?_).mono s5).go
        obtain ⟨ii, r, _, _, hok, h5, _, _, fn', g1, _, g3⟩ := shape c' hc'
        have : fn' = fn := by omega
        subst this
        rw [hln] at g3
        have g4 : ln = ii.told.length := by
          have := Option.some.inj g3
          omega
        rw [h5, g4, List.take_left] at hrow
        rw [← hrow, right_told, hok] at hrb
        cases hrb
      | true =>
        refine iteF ?_
        obtain ⟨ii, hii, hok, hhd⟩ := hd_right hsh hrb
        have hR4 := s5 _ _ hR1
        have nRt : R ≠ t := fun z => by rw [← z] at ht; rw [s2 _ _ hR1] at ht; cases ht
        have hlc : c1.length = ts.length := by
          have := Paired.length hts
          unfold rowsT at this
          rw [List.length_map] at this
          exact this
        refine ⟨_, rfl, .inl ⟨rfl, _, SqL.of hR4⟩, _, rfl, R, _, _, rfl, rfl, hR4, ?_, ?_⟩
        · rw [List.length_map, ← hlc]
          exact Nat.lt_of_le_of_lt (by omega : _ ≤ 1000) (by decide)
        have ht4 := s4 _ _ (upd_same (H := L2.upd H' p1 (.lst (vI row))) (a := t) (o := .tup (vI row)))
        refine ⟨_, rfl, _, rfl, t, _, rfl, .inr (SqT.of (by rw [upd_ne (Ne.symm nRt)]; exact ht4)), _, _, rfl, rfl, ?_⟩
        rw [vI_length]
        refine ⟨code.length - (i + ln), by omega, c1 ++ [ii], R, ts ++ [t], i + ln, some (.ref t), ?_, rfl, by omega, hR, ?_, ?_, ?_, ?_, ?_, ?_, ?_⟩
        · rw [show ((i + ln : Nat) : Int) = (i : Int) + (row.length : Int) by omega]
          rfl
        · intro b o q
          rw [upd_ne (ne_of_none q hR)]
          exact s5 _ _ (s1 _ _ q)
        · rw [upd_same, List.map_append]
          rfl
        · unfold RowsAt rowsT
          rw [List.map_append]
          refine paired_append (paired_mem hts fun a b hb q => ?_) ?_
          · have nb : b ≠ R := fun z => by
              rw [z, hR1] at q
              cases q
            rw [upd_ne nb]
            exact s5 _ _ q
          · rw [upd_ne (Ne.symm nRt), ← hii]
            exact ht4
        · simp only [List.mem_append, List.mem_cons, List.not_mem_nil, or_false, not_or]
          exact ⟨hRts, nRt⟩
        · rw [List.length_append, List.length_cons, List.length_nil]
          omega
        · intro c' hc'
          rw [List.append_assoc]
          refine kf _ (MX.cut_cons ?_ hok hc')
          rw [hdrop]
          exact hhd _
        · intro c hc
          obtain ⟨c', rfl, hc'⟩ := kb c hc
          obtain ⟨ii', r, c2, h1', h2', h5', h3', rfl, _⟩ := shape c' hc'
          rw [hdrop, hhd] at h1'
          cases h1'
          exact ⟨c2, by rw [List.append_assoc]; rfl, h3'⟩
    · have hi2 : i = code.length := by
        have : ¬ ((i : Int) < (code.length : Int)) := fun z => hlt (decide_eq_true z)
        omega
      subst hi2
      refine ⟨_, rfl, k c1 ?_ R ts H' hR s1 hR1 hts hRts⟩
      have := kf [] (by rw [List.drop_length]; exact MX.cut_nil)
      rw [List.append_nil] at this
      exact this
end
end SB
end
section
set_option Elab.async false
set_option maxRecDepth 100000
set_option maxHeartbeats 4000000
set_option linter.all false
namespace SB
open PySem PySem.Spec PyProof.Rows L2 XL
open Vbdeaa (Text Exp Exps Un Bin Ins)
open MX (insOk hd Cut MS Ch belowAll)
def off (M : List Addr) (H : Hp) : Hp := fun b => if b ∈ M then none else H b
theorem off_same (M : List Addr) (H : Hp) : Same (off M H) H := fun b o e => by
  unfold off at e
  split at e
  · cases e
  · exact e
theorem off_get {M : List Addr} {H : Hp} {b : Addr} {o : HO} (h : H b = some o) (hb : b ∉ M) : off M H b = some o := by
  unfold off
  rw [if_neg hb]
  exact h
theorem off_mem {M : List Addr} {H : Hp} {b : Addr} {o : HO} (h : off M H b = some o) : b ∉ M := by
  unfold off at h
  split at h
  · cases h
  · assumption
theorem off_upd {M : List Addr} {H : Hp} {b : Addr} {o : HO} (h : b ∈ M) : off M (L2.upd H b o) = off M H := by
  funext x
  unfold off
  by_cases hx : x ∈ M
  · rw [if_pos hx, if_pos hx]
  · rw [if_neg hx, if_neg hx, upd_ne (fun z => hx (by rw [z]; exact h))]
def recF (lr : Addr) (i : Int) (lw lc : Addr) : List (Str × V) := [("rows", .ref lr), ("at", .int i), ("waiting", .ref lw), ("choices", .ref lc)]
def choF (cd : Addr) (s m e b : Int) (fp : V) : List (Str × V) := [("condition", .ref cd), ("start", .int s), ("middle", .int m), ("end", .int e), ("base", .int b), ("first_part", fp)]
def FirstAt (C : Addr) (G : Hp) : Option Exp → V → Prop
  | none, v => v = .non
  | some f, v => ∃ a, v = .ref a ∧ NodeAt C G f a
inductive ChsAt (C CC : Addr) (G H : Hp) : List Ch → List Addr → Prop
  | nil : ChsAt C CC G H [] []
  | cons {x : Ch} {r : List Ch} {a dx cd : Addr} {as : List Addr} {fp : V} : H a = some (.ins CC dx (choF cd (x.start : Nat) (x.middle : Nat) (x.end_ : Nat) ((belowAll (x :: r)).length : Nat) fp)) → NodeAt C G x.cond cd → FirstAt C G x.first fp → ChsAt C CC G H r as → ChsAt C CC G H (x :: r) (a :: as)
theorem FirstAt.same {C : Addr} {G G' : Hp} {o : Option Exp} {v : V} (s : Same G G') (h : FirstAt C G o v) : FirstAt C G' o v := by
  cases o with
  | none => exact h
  | some f => obtain ⟨a, e, q⟩ := h; exact ⟨a, e, q.same s⟩
theorem ChsAt.mono {C CC : Addr} {G G' H H' : Hp} (s : Same G G') : ∀ {chs : List Ch} {as : List Addr}, (∀ b ∈ as, H' b = H b) → ChsAt C CC G H chs as → ChsAt C CC G' H' chs as
  | _, _, _, .nil => .nil
  | _, _, k, .cons h1 h2 h3 h4 => .cons (by rw [k _ List.mem_cons_self]; exact h1) (h2.same s) (h3.same s) (ChsAt.mono s (fun b hb => k b (List.mem_cons_of_mem _ hb)) h4)
def waitOf (s : MS) : List Exp := s.cur ++ belowAll s.chs
structure RecD (C R CC : Addr) (H : Hp) (r : Addr) (M : List Addr) (c : Vbdeaa.Code) (s : MS) (dx lr lw lc : Addr) (ts ws cs : List Addr) : Prop where
  mem : M = r :: lw :: lc :: cs
  nd : M.Nodup
  obj : H r = some (.ins R dx (recF lr (s.pos : Nat) lw lc))
  rows : off M H lr = some (.lst (ts.map V.ref))
  told : RowsAt (off M H) c ts
  wl : H lw = some (.lst (ws.reverse.map V.ref))
  wn : Paired (NodeAt C (off M H)) (waitOf s) ws
  cl : H lc = some (.lst (cs.reverse.map V.ref))
  cn : ChsAt C CC (off M H) H s.chs cs
def Rec (C R CC : Addr) (H : Hp) (r : Addr) (M : List Addr) (c : Vbdeaa.Code) (s : MS) : Prop := ∃ dx lr lw lc ts ws cs, RecD C R CC H r M c s dx lr lw lc ts ws cs
structure Keep (M : List Addr) (H H' : Hp) : Prop where
  ins : ∀ b ∈ M, H' b = H b
  out : Same (off M H) (off M H')
theorem ChsAt.there {C CC : Addr} {G H : Hp} : ∀ {chs : List Ch} {as : List Addr}, ChsAt C CC G H chs as → ∀ b ∈ as, ∃ o, H b = some o
  | _, _, .nil, b, hb => by cases hb
  | _, _, .cons h1 _ _ h4, b, hb => by
    rcases List.mem_cons.mp hb with z | hb
    · subst z; exact ⟨_, h1⟩
    · exact h4.there b hb
theorem RecD.there {C R CC : Addr} {H : Hp} {r : Addr} {M : List Addr} {c : Vbdeaa.Code} {s : MS} {dx lr lw lc : Addr} {ts ws cs : List Addr} (h : RecD C R CC H r M c s dx lr lw lc ts ws cs) : ∀ b ∈ M, ∃ o, H b = some o := by
  intro b hb
  rw [h.mem] at hb
  rcases List.mem_cons.mp hb with z | hb
  · subst z; exact ⟨_, h.obj⟩
  rcases List.mem_cons.mp hb with z | hb
  · subst z; exact ⟨_, h.wl⟩
  rcases List.mem_cons.mp hb with z | hb
  · subst z; exact ⟨_, h.cl⟩
  · exact h.cn.there b hb
theorem RecD.keep {C R CC : Addr} {H H' : Hp} {r : Addr} {M : List Addr} {c : Vbdeaa.Code} {s : MS} {dx lr lw lc : Addr} {ts ws cs : List Addr} (h : RecD C R CC H r M c s dx lr lw lc ts ws cs) (k : Keep M H H') : RecD C R CC H' r M c s dx lr lw lc ts ws cs := by
  have m1 : r ∈ M := by rw [h.mem]; exact List.mem_cons_self
  have m2 : lw ∈ M := by rw [h.mem]; exact List.mem_cons_of_mem _ List.mem_cons_self
  have m3 : lc ∈ M := by rw [h.mem]; exact List.mem_cons_of_mem _ (List.mem_cons_of_mem _ List.mem_cons_self)
  exact ⟨h.mem, h.nd, by rw [k.ins _ m1]; exact h.obj, k.out _ _ h.rows, h.told.same k.out, by rw [k.ins _ m2]; exact h.wl, paired_same k.out h.wn, by rw [k.ins _ m3]; exact h.cl,
    h.cn.mono k.out (fun b hb => k.ins b (by rw [h.mem]; exact List.mem_cons_of_mem _ (List.mem_cons_of_mem _ (List.mem_cons_of_mem _ hb))))⟩
theorem Keep.of_same {M : List Addr} {H H' : Hp} (hM : ∀ b ∈ M, ∃ o, H b = some o) (s : Same H H') : Keep M H H' := by
  refine ⟨fun b hb => ?_, fun b o e => ?_⟩
  · obtain ⟨o, ho⟩ := hM b hb
    rw [ho]
    exact s _ _ ho
  · exact off_get (s _ _ (off_same _ _ _ _ e)) (off_mem e)
theorem Keep.trans {M : List Addr} {H H1 H2 : Hp} (a : Keep M H H1) (b : Keep M H1 H2) : Keep M H H2 := ⟨fun x hx => (b.ins x hx).trans (a.ins x hx), a.out.trans b.out⟩
theorem mk_nodeM {C : Addr} {M : List Addr} {H1 : Hp} {e : Exp} {D : V} {l : Addr} {as : List Addr} {Q : VK} {E : XK} (hM : ∀ b ∈ M, ∃ o, H1 b = some o) (hD : DetOk (off M H1) e D) (hl : off M H1 l = some (.lst (as.map V.ref))) (hp : Paired (NodeAt C (off M H1)) (kids e) as) (hlen : as.length < 2000)
    (k : ∀ x H2, H1 x = none → Keep M H1 H2 → NodeAt C (off M H2) e x → Q (.ref x) H2) :
    ∀ x dx, H1 x = none → H1 dx = none → dx ≠ x → spNode C [.ref x, .int (formN e), D, .ref l] (L2.upd (L2.upd H1 dx (.own x)) x (.ins C dx [])) (fun v H2 => v = .non ∧ Q (.ref x) H2) E := by
  intro x dx hx hdx hne
  have s1 := Same.new2 (C := C) hx hdx
  have s0 := (off_same M H1).trans s1
  refine ⟨x, dx, l, e, D, as, rfl, upd_same, detOk_same (fun b xs q => s0 b _ q) hD, s0 _ _ hl, paired_same s0 hp, hlen, fun H' sx hx' => ⟨rfl, ?_⟩⟩
  have s2 : Same H1 H' := fun b o q => sx b o (s1 b o q) (ne_of_none q hx)
  have kp := Keep.of_same hM s2
  have xM : x ∉ M := fun z => by
    obtain ⟨o, ho⟩ := hM x z
    rw [hx] at ho
    cases ho
  exact k x H' hx kp (.mk (off_get hx' xM) (detOk_same (fun b xs q => kp.out b _ q) hD) (kp.out _ _ hl) (paired_same kp.out hp))
structure ChoC (K : PySem.W.Frag) (CC : Addr) : Prop where
  cl : Cls K CC
  nC : NoAttr K CC "condition"
  nS : NoAttr K CC "start"
  nM : NoAttr K CC "middle"
  nE : NoAttr K CC "end"
  nB : NoAttr K CC "base"
  nF : NoAttr K CC "first_part"
structure RecC (K : PySem.W.Frag) (R : Addr) : Prop where
  cl : Cls K R
  nR : NoAttr K R "rows"
  nA : NoAttr K R "at"
  nW : NoAttr K R "waiting"
  nC : NoAttr K R "choices"
abbrev sCho (i : Nat) : Stmt := inClass (top 62) i
abbrev sRec (i : Nat) : Stmt := inClass (top 63) i
def spChoI (CC : Addr) : Sp := fun vs H Q _ => ∃ (x dx cd : Addr) (s m e b : Int), vs = [.ref x, .ref cd, .int s, .int m, .int e, .int b] ∧ H x = some (.ins CC dx []) ∧ ∀ H', SameX x H H' → H' x = some (.ins CC dx (choF cd s m e b .non)) → Q .non H'
def spLimit (CC : Addr) : Sp := fun vs H Q _ => ∃ (x dx cd : Addr) (s m e b : Int) (fp : V), vs = [.ref x] ∧ H x = some (.ins CC dx (choF cd s m e b fp)) ∧ Q (.int (if fp = .non then m - 1 else e)) H
def spRecI (R : Addr) : Sp := fun vs H Q _ => ∃ (x dx lr : Addr), vs = [.ref x, .ref lr] ∧ H x = some (.ins R dx []) ∧ ∀ H' lw lc, SameX x H H' → H lw = none → H lc = none → lw ≠ lc → H' lw = some (.lst []) → H' lc = some (.lst []) → H' x = some (.ins R dx (recF lr 0 lw lc)) → Q .non H'
section
variable {P : Program} {w : World} {K : PySem.W.Frag} {mg : Str → Option Value} {base : Heap}
theorem scChoI : FnScope ["self", "condition", "start", "middle", "end", "base"] ["self", "condition", "start", "middle", "end", "base"] (defScope (sCho 0)) := ⟨rfl, rfl, rfl, by decide +kernel, rfl, by decide +kernel, by decide +kernel⟩
theorem ok_choI {f CC : Addr} {fd : FuncData} (F : Fun K "__init__" "Choice.__init__" (sCho 0) f fd) (T : ChoC K CC) : FnOk P w K mg base (CXr P w) 1 f fd ["self", "condition", "start", "middle", "end", "base"] (spChoI CC) := by
  refine okX F scChoI (fun vs H Q E h => ?_) (fun cdv A outer s H vs Q E hr h => ?_)
  · obtain ⟨_, _, _, _, _, _, _, rfl, _⟩ := h
    rfl
  · obtain ⟨x, dx, cd, s0, m, e, b, rfl, hx, k⟩ := h
    refine ⟨_, pss_cons (ps_fld (pv 0) (pv 1) rfl) (pss_cons (ps_fld (pv 0) (pv 2) rfl) (pss_cons (ps_fld (pv 0) (pv 3) rfl) (pss_cons (ps_fld (pv 0) (pv 4) rfl) (pss_cons (ps_fld (pv 0) (pv 5) rfl) (pss_one (ps_fld (pv 0) pe_non rfl)))))), ?_⟩
    refine ⟨_, rfl, _, rfl, x, CC, dx, [], rfl, hx, T.cl, T.nC, (by decide), ?_⟩
    refine ⟨_, rfl, _, rfl, x, CC, dx, _, rfl, upd_same, T.cl, T.nS, (by show 1 < 1000; decide), ?_⟩
    refine ⟨_, rfl, _, rfl, x, CC, dx, _, rfl, upd_same, T.cl, T.nM, (by show 2 < 1000; decide), ?_⟩
    refine ⟨_, rfl, _, rfl, x, CC, dx, _, rfl, upd_same, T.cl, T.nE, (by show 3 < 1000; decide), ?_⟩
    refine ⟨_, rfl, _, rfl, x, CC, dx, _, rfl, upd_same, T.cl, T.nB, (by show 4 < 1000; decide), ?_⟩
    refine ⟨_, rfl, x, CC, dx, _, rfl, upd_same, T.cl, T.nF, (by show 5 < 1000; decide), ?_⟩
    refine k _ (fun y o q hy => ?_) upd_same
    rw [upd_ne hy, upd_ne hy, upd_ne hy, upd_ne hy, upd_ne hy, upd_ne hy]
    exact q
theorem scLimit : FnScope ["self"] ["self"] (defScope (sCho 1)) := ⟨rfl, rfl, rfl, by decide +kernel, rfl, by decide +kernel, by decide +kernel⟩
theorem ok_limit {f CC : Addr} {fd : FuncData} (F : Fun K "limit" "Choice.limit" (sCho 1) f fd) (T : ChoC K CC) : FnOk P w K mg base (CXr P w) 1 f fd ["self"] (spLimit CC) := by
  refine okX F scLimit (fun vs H Q E h => ?_) (fun cdv A outer s H vs Q E hr h => ?_)
  · obtain ⟨_, _, _, _, _, _, _, _, rfl, _⟩ := h
    rfl
  · obtain ⟨x, dx, cd, s0, m, e, b, fp, rfl, hx, k⟩ := h
    refine ⟨_, pss_cons (ps_if (pt_cmp (pc_isN (pe_fld (pv 0) rfl))) (pss_one (ps_ret (pe_op op_sub (pe_fld (pv 0) rfl) pe_int))) pss_nil) (pss_one (ps_ret (pe_fld (pv 0) rfl))), ?_⟩
    refine ⟨_, rfl, x, CC, dx, _, _, rfl, hx, T.cl, T.nF, rfl, _, rfl, ite2 (fun h => ?_) fun h => ?_⟩
    · rw [if_pos (of_decide_eq_true h)] at k
      exact ⟨_, rfl, x, CC, dx, _, _, rfl, hx, T.cl, T.nM, rfl, m, 1, rfl, rfl, k⟩
    · rw [if_neg (fun z => h (decide_eq_true z))] at k
      exact ⟨_, rfl, x, CC, dx, _, _, rfl, hx, T.cl, T.nE, rfl, k⟩
theorem scRecI : FnScope ["self", "rows"] ["self", "rows"] (defScope (sRec 0)) := ⟨rfl, rfl, rfl, by decide +kernel, rfl, by decide +kernel, by decide +kernel⟩
theorem ok_recI {f R : Addr} {fd : FuncData} (F : Fun K "__init__" "Recovery.__init__" (sRec 0) f fd) (T : RecC K R) : FnOk P w K mg base (CXr P w) 1 f fd ["self", "rows"] (spRecI R) := by
  refine okX F scRecI (fun vs H Q E h => ?_) (fun cdv A outer s H vs Q E hr h => ?_)
  · obtain ⟨_, _, _, rfl, _⟩ := h
    rfl
  · obtain ⟨x, dx, lr, rfl, hx, k⟩ := h
    refine ⟨_, pss_cons (ps_fld (pv 0) (pv 1) rfl) (pss_cons (ps_fld (pv 0) pe_int rfl) (pss_cons (ps_fld (pv 0) (pe_lst pa_nil) rfl) (pss_one (ps_fld (pv 0) (pe_lst pa_nil) rfl)))), ?_⟩
    refine ⟨_, rfl, _, rfl, x, R, dx, [], rfl, hx, T.cl, T.nR, (by decide), ?_⟩
    refine ⟨_, rfl, x, R, dx, _, rfl, upd_same, T.cl, T.nA, (by show 1 < 1000; decide), ?_⟩
    refine ⟨by decide, fun lw hlw => ?_⟩
    have n1 : lw ≠ x := fun z => by rw [z, upd_same] at hlw; cases hlw
    rw [upd_ne n1, upd_ne n1] at hlw
    refine ⟨_, rfl, x, R, dx, _, rfl, by rw [upd_ne (Ne.symm n1)]; exact upd_same, T.cl, T.nW, (by show 2 < 1000; decide), ?_⟩
    refine ⟨by decide, fun lc hlc => ?_⟩
    have n2 : lc ≠ x := fun z => by rw [z, upd_same] at hlc; cases hlc
    rw [upd_ne n2] at hlc
    have n3 : lc ≠ lw := fun z => by rw [z, upd_same] at hlc; cases hlc
    rw [upd_ne n3, upd_ne n2, upd_ne n2] at hlc
    refine ⟨_, rfl, x, R, dx, _, rfl, by rw [upd_ne (Ne.symm n2)]; exact upd_same, T.cl, T.nC, (by show 3 < 1000; decide), ?_⟩
    refine k _ lw lc (fun y o q hy => ?_) hlw hlc (Ne.symm n3) ?_ ?_ upd_same
    · rw [upd_ne hy, upd_ne (ne_of_none q hlc), upd_ne hy, upd_ne (ne_of_none q hlw), upd_ne hy, upd_ne hy]
      exact q
    · rw [upd_ne n1, upd_ne (Ne.symm n3), upd_ne n1]
      exact upd_same
    · rw [upd_ne n2]
      exact upd_same
end
end SB
end
section
set_option Elab.async false
set_option maxRecDepth 100000
set_option maxHeartbeats 4000000
set_option linter.all false
namespace SB
open PySem PySem.Spec PyProof.Rows L2 XL
open Vbdeaa (Text Exp Exps Un Bin Ins)
open MX (insOk hd Cut MS Ch belowAll)
theorem atI_last {α : Type} {xs : List α} {x : α} : atI (xs ++ [x]) (-1) = some x := by
  unfold atI
  have e : ixN (xs ++ [x]).length (-1) = some xs.length := by
    unfold ixN
    rw [if_neg (by decide)]
    rw [List.length_append, List.length_cons, List.length_nil]
    first
    | rw [if_pos (by omega)]; congr 1; omega
    | (simp only; split <;> first | omega | (congr 1; omega))
  rw [e]
  show (xs ++ [x])[xs.length]? = some x
  simp
theorem rev_map_cons {α β : Type} (f : α → β) (a : α) (l : List α) : (a :: l).reverse.map f = l.reverse.map f ++ [f a] := by simp
structure RT (K : PySem.W.Frag) (mg : Str → Option Value) (C R CC : Addr) : Prop where
  N : NodeC K C
  R : RecC K R
  H : ChoC K CC
  P : CP K mg
  Q : CN K mg
  S : CR K mg
def spFree (C R CC : Addr) : Sp := fun vs H Q _ => ∃ (r : Addr) (M : List Addr) (c : Vbdeaa.Code) (s : MS), vs = [.ref r] ∧ Rec C R CC H r M c s ∧ Q (.int (s.cur.length : Nat)) H
section
variable {P : Program} {w : World} {K : PySem.W.Frag} {mg : Str → Option Value} {base : Heap}
theorem scFree : FnScope ["self"] ["self"] (defScope (sRec 2)) := ⟨rfl, rfl, rfl, by decide +kernel, rfl, by decide +kernel, by decide +kernel⟩
theorem ok_free {f C R CC : Addr} {fd : FuncData} (F : Fun K "free" "Recovery.free" (sRec 2) f fd) (T : RT K mg C R CC) : FnOk P w K mg base (CXr P w) 1 f fd ["self"] (spFree C R CC) := by
  refine okX F scFree (fun vs H Q E h => ?_) (fun cdv A outer s H vs Q E hr h => ?_)
  · obtain ⟨_, _, _, _, rfl, _⟩ := h
    rfl
  · obtain ⟨r, M, c, ms, rfl, ⟨dx, lr, lw, lc, ts, ws, cs, D⟩, k⟩ := h
    refine ⟨_, pss_cons (ps_if (pt_truth (pe_fld (pv 0) rfl) (fun _ => rfl)) (pss_one (ps_ret (pe_op op_sub (pe_callB call_len_seq (by rfl) T.P.len (by decide +kernel) (pa_cons (pe_fld (pv 0) rfl) pa_nil)) (pe_fld (pe_ix ix_list (pe_fld (pv 0) rfl) (pe_un un_neg pe_int) (fun _ _ => rfl)) rfl)))) pss_nil)
      (pss_one (ps_ret (pe_callB call_len_seq (by rfl) T.P.len (by decide +kernel) (pa_cons (pe_fld (pv 0) rfl) pa_nil)))), ?_⟩
    have hwl : (ws.reverse.map V.ref).length = ms.cur.length + (belowAll ms.chs).length := by
      rw [List.length_map, List.length_reverse, ← Paired.length D.wn]
      unfold waitOf
      rw [List.length_append]
    refine ⟨_, rfl, r, R, dx, _, _, rfl, D.obj, T.R.cl, T.R.nC, rfl, _, .inl ⟨_, SqL.of D.cl, rfl⟩, ?_⟩
    have hcn := D.cn
    cases hs : ms.chs with
    | nil =>
      rw [hs] at hcn hwl
      cases hcn
      refine iteF ⟨_, rfl, r, R, dx, _, _, rfl, D.obj, T.R.cl, T.R.nW, rfl, lw, _, rfl, .inl (SqL.of D.wl), ?_⟩
      rw [hwl]
      exact k
    | cons x q =>
      rw [hs] at hcn hwl
      cases hcn with
      | @cons _ _ a dxa cd as fp h1 h2 h3 h4 =>
        have hcl := D.cl
        rw [rev_map_cons] at hcl ⊢
        rw [show (!(as.reverse.map V.ref ++ [V.ref a]).isEmpty) = true by simp]
        refine iteT ⟨_, rfl, r, R, dx, _, _, rfl, D.obj, T.R.cl, T.R.nW, rfl, lw, _, rfl, .inl (SqL.of D.wl), _, rfl, r, R, dx, _, _, rfl, D.obj, T.R.cl, T.R.nC, rfl, _, rfl, lc, _, _, _, rfl, rfl, SqL.of hcl, atI_last, a, CC, dxa, _, _, rfl, h1, T.H.cl, T.H.nB, rfl, _, _, rfl, rfl, ?_⟩
        rw [hwl]
        show Q (V.int (((ms.cur.length + (belowAll (x :: q)).length : Nat) : Int) - ((belowAll (x :: q)).length : Nat))) H
        rw [show (((ms.cur.length + (belowAll (x :: q)).length : Nat) : Int) - ((belowAll (x :: q)).length : Nat)) = (ms.cur.length : Nat) by omega]
        exact k
end
theorem pop_last {xs : List V} {y : V} : (xs ++ [y])[(xs ++ [y]).length - 1]? = some y := by simp
theorem RecD.next {C R CC : Addr} {H H' : Hp} {r : Addr} {M : List Addr} {c : Vbdeaa.Code} {s s' : MS} {dx lr lw lc : Addr} {ts ws ws' cs : List Addr} (D : RecD C R CC H r M c s dx lr lw lc ts ws cs) (out : Same (off M H) (off M H')) (obj : H' r = some (.ins R dx (recF lr (s'.pos : Nat) lw lc)))
    (wl : H' lw = some (.lst (ws'.reverse.map V.ref))) (wn : Paired (NodeAt C (off M H')) (waitOf s') ws') (cl : H' lc = some (.lst (cs.reverse.map V.ref))) (cn : ChsAt C CC (off M H') H' s'.chs cs) : RecD C R CC H' r M c s' dx lr lw lc ts ws' cs :=
  ⟨D.mem, D.nd, obj, out _ _ D.rows, D.told.same out, wl, wn, cl, cn⟩
theorem RecD.rM {C R CC : Addr} {H : Hp} {r : Addr} {M : List Addr} {c : Vbdeaa.Code} {s : MS} {dx lr lw lc : Addr} {ts ws cs : List Addr} (D : RecD C R CC H r M c s dx lr lw lc ts ws cs) : r ∈ M ∧ lw ∈ M ∧ lc ∈ M ∧ (∀ b ∈ cs, b ∈ M) ∧ r ≠ lw ∧ r ≠ lc ∧ lw ≠ lc ∧ (∀ b ∈ cs, b ≠ r ∧ b ≠ lw ∧ b ≠ lc) := by
  have nd := D.nd
  rw [D.mem] at nd ⊢
  simp only [List.nodup_cons, List.mem_cons, not_or] at nd
  obtain ⟨⟨a1, a2, a3⟩, ⟨b1, b2⟩, c1, _⟩ := nd
  refine ⟨by simp, by simp, by simp, fun b hb => by simp [hb], a1, a2, b1, fun b hb => ⟨?_, ?_, ?_⟩⟩
  · intro z; subst z; exact a3 hb
  · intro z; subst z; exact b2 hb
  · intro z; subst z; exact c1 hb
theorem RecD.setW {C R CC : Addr} {H H' : Hp} {r : Addr} {M : List Addr} {c : Vbdeaa.Code} {s s' : MS} {dx lr lw lc : Addr} {ts ws ws' cs : List Addr} (D : RecD C R CC H r M c s dx lr lw lc ts ws cs) (ins : ∀ b ∈ M, b ≠ lw → H' b = H b) (out : Same (off M H) (off M H')) (hp : s'.pos = s.pos) (hc : s'.chs = s.chs)
    (wl : H' lw = some (.lst (ws'.reverse.map V.ref))) (wn : Paired (NodeAt C (off M H')) (waitOf s') ws') : RecD C R CC H' r M c s' dx lr lw lc ts ws' cs := by
  obtain ⟨m1, m2, m3, m4, n1, n2, n3, n4⟩ := D.rM
  exact D.next out (by rw [ins _ m1 n1, hp]; exact D.obj) wl wn (by rw [ins _ m3 (Ne.symm n3)]; exact D.cl) (by rw [hc]; exact D.cn.mono out fun b hb => ins b (m4 b hb) (n4 b hb).2.1)
def spTakeParts (C R CC Cn : Addr) : Sp := fun vs H Q E => ∃ (r : Addr) (M : List Addr) (c : Vbdeaa.Code) (s : MS) (k : Nat), vs = [.ref r, .int k] ∧ Rec C R CC H r M c s ∧ k ≤ 8 ∧
  (k ≤ s.cur.length → ∀ l as H', H l = none → off M H' l = some (.lst (as.map V.ref)) → Paired (NodeAt C (off M H')) (s.cur.take k).reverse as → Rec C R CC H' r M c { s with cur := s.cur.drop k } → Same (off M H) (off M H') → Q (.ref l) H') ∧ (s.cur.length < k → RaiseC Cn (-3) (off M H) E)
def spTakeOnly (C R CC Cn : Addr) : Sp := fun vs H Q E => ∃ (r : Addr) (M : List Addr) (c : Vbdeaa.Code) (s : MS), vs = [.ref r] ∧ Rec C R CC H r M c s ∧
  (∀ e, s.cur = [e] → ∀ a H', NodeAt C (off M H') e a → Rec C R CC H' r M c { s with cur := [] } → Same (off M H) (off M H') → Q (.ref a) H') ∧ ((∀ e, s.cur ≠ [e]) → RaiseC Cn (-3) (off M H) E)
section
variable {P : Program} {w : World} {K : PySem.W.Frag} {mg : Str → Option Value} {base : Heap}
theorem scTakeP : FnScope ["self", "count", "parts"] ["self", "count"] (defScope (sRec 3)) := ⟨rfl, rfl, rfl, by decide +kernel, rfl, by decide +kernel, by decide +kernel⟩
theorem ok_takeP {f fF C R CC Cn fI : Addr} {fd dF dI : FuncData} (F : Fun K "take_parts" "Recovery.take_parts" (sRec 3) f fd) (FF : Fm K R "free" "Recovery.free" (sRec 2) fF dF ["self"]) (T : RT K mg C R CC) (X : XC P w K mg base "NoCode" Cn fI dI (-3)) : FnOk P w K mg base (CXr P w) 4 f fd ["self", "count"] (spTakeParts C R CC Cn) := by
  have GF : FnOk P w K mg base (CXr P w) 1 fF dF _ _ := ok_free FF.F T
  refine okX F scTakeP (fun vs H Q E h => ?_) (fun cdv A outer s H vs Q E hr h => ?_)
  · obtain ⟨_, _, _, _, _, rfl, _⟩ := h
    rfl
  · obtain ⟨r, M, c, ms, k, rfl, hrec, hk8, kk, kr⟩ := h
    obtain ⟨dx, lr, lw, lc, ts, ws, cs, D⟩ := id hrec
    have hr1 : Room 1 _ := hr.mono (by omega)
    refine ⟨_, pss_cons (ps_if (pt_cmpR op_gt (pv 1) (pe_meth0 (pv 0) T.R.cl FF.me GF hr1 FF.b .nil passes) (nomark _)) (pss_one (ps_raise X.made X.cls X.ok hr rfl X.m X.b rfl throws_of)) pss_nil)
      (pss_cons (ps_set (i := 2) scTakeP.nd rfl (Or.inl rfl) (pe_lst pa_nil))
      (pss_cons (ps_while pown (pt_cmpR op_lt (pe_callB call_len_seq (by rfl) T.P.len (by decide +kernel) (pa_cons (pv 2) pa_nil)) (pv 1) (nomark _))
        (pss_one (ps_expr (pe_bm PySem.F.plainAttrs_list PySem.F.slot_list_append PySem.F.type_list_append mt_append (pv 2) (pa_cons (pe_bm0 PySem.F.plainAttrs_list PySem.F.slot_list_pop PySem.F.type_list_pop mt_pop (pe_fld (pv 0) rfl)) pa_nil)))))
      (pss_cons (ps_expr (pe_bm0 PySem.F.plainAttrs_list PySem.F.slot_list_reverse PySem.F.type_list_reverse mt_reverse (pv 2)))
      (pss_one (ps_ret (pv 2)))))), ?_⟩
    refine ⟨_, rfl, _, rfl, r, dx, _, rfl, D.obj, rfl, r, M, c, ms, rfl, hrec, _, _, rfl, rfl, _, rfl, ?_⟩
    refine ite2 (fun h => ?_) fun h => ?_
    · have h : (ms.cur.length : Int) < k := of_decide_eq_true h
      exact ((kr (by omega)).mono (off_same M H)).go
    have hkl : k ≤ ms.cur.length := by
      have : ¬ ((ms.cur.length : Int) < k) := fun z => h (decide_eq_true z)
      omega
    obtain ⟨m1, m2, m3, m4, n1, n2, n3, n4⟩ := D.rM
    have hwn := D.wn
    have hwl : k ≤ ws.length := by
      rw [← Paired.length hwn]
      unfold waitOf
      rw [List.length_append]
      omega
    refine ⟨by decide, fun L hL => ?_⟩
    have LM : L ∉ M := fun z => by
      obtain ⟨o, ho⟩ := D.there L z
      rw [hL] at ho
      cases ho
    have nLw : lw ≠ L := fun z => LM (z ▸ m2)
    refine ⟨fun m σ H' => ∃ j : Nat, σ = [some (.ref r), some (.int k), some (.ref L)] ∧ m = k - j ∧ j ≤ k ∧ (∀ b ∈ M, b ≠ lw → H' b = H b) ∧ Same (off M H) (off M H') ∧ H' lw = some (.lst ((ws.drop j).reverse.map V.ref)) ∧ H' L = some (.lst ((ws.take j).map V.ref)),
      ⟨k, 0, rfl, rfl, Nat.zero_le _, fun b hb _ => upd_ne (fun z => LM (z ▸ hb)), fun b o e => ?_, by rw [upd_ne nLw]; exact D.wl, upd_same⟩, ?_⟩
    · have := off_mem e
      exact off_get (by rw [upd_ne (ne_of_none (off_same _ _ _ _ e) hL)]; exact off_same _ _ _ _ e) this
    rintro m σ H' ⟨j, rfl, rfl, hj, ins, out, hw, hl⟩
    have hobj : H' r = _ := (ins r m1 n1).trans D.obj
    refine ⟨_, rfl, L, _, rfl, .inl (SqL.of hl), _, rfl, _, _, rfl, rfl, _, rfl, ?_⟩
    rw [List.length_map, List.length_take, Nat.min_eq_left (by omega)]
    refine ite2 (fun h => ?_) fun h => ?_
    · have hjk : j < k := by
        have h : (j : Int) < k := of_decide_eq_true h
        omega
      obtain ⟨b, hb⟩ : ∃ b, ws[j]? = some b := ⟨_, List.getElem?_eq_getElem (by omega)⟩
      have hdrop : ws.drop j = b :: ws.drop (j + 1) := by
        rw [List.drop_eq_getElem_cons (by omega)]
        congr 1
        rw [List.getElem?_eq_getElem (by omega)] at hb
        exact Option.some.inj hb
      rw [hdrop, rev_map_cons] at hw
      refine ⟨fun σ' H'' => ∃ m', m' < k - j ∧ ∃ j : Nat, σ' = [some (.ref r), some (.int k), some (.ref L)] ∧ m' = k - j ∧ j ≤ k ∧ (∀ b ∈ M, b ≠ lw → H'' b = H b) ∧ Same (off M H) (off M H'') ∧ H'' lw = some (.lst ((ws.drop j).reverse.map V.ref)) ∧ H'' L = some (.lst ((ws.take j).map V.ref)), fun σ' H'' h => h, ?_⟩
      refine ⟨_, rfl, .inl ⟨rfl, _, SqL.of hl⟩, _, rfl, r, R, dx, _, _, rfl, hobj, T.R.cl, T.R.nW, rfl, .inl ⟨rfl, _, SqL.of hw⟩, lw, _, _, rfl, rfl, hw, pop_last, ?_⟩
      rw [List.dropLast_concat]
      refine ⟨L, _, _, rfl, rfl, by rw [upd_ne (Ne.symm nLw)]; exact hl, ?_, ?_⟩
      · rw [List.length_map, List.length_take]
        exact Nat.lt_of_le_of_lt (by omega : _ ≤ 8) (by decide)
      refine ⟨k - (j + 1), by omega, j + 1, rfl, rfl, hjk, fun y hy hyw => ?_, ?_, ?_, ?_⟩
      · rw [upd_ne (show y ≠ L from fun z => LM (z ▸ hy)), upd_ne hyw]
        exact ins y hy hyw
      · intro y o q
        have q2 := out _ _ q
        have yM := off_mem q2
        refine off_get ?_ yM
        rw [upd_ne (ne_of_none (off_same _ _ _ _ q) hL), upd_ne (show y ≠ lw from fun z => yM (z ▸ m2))]
        exact off_same _ _ _ _ q2
      · rw [upd_ne nLw]
        exact upd_same
      · rw [upd_same, List.take_succ, hb, List.map_append]
        rfl
    · have hjk : j = k := by
        have : ¬ ((j : Int) < k) := fun z => h (decide_eq_true z)
        omega
      subst hjk
      refine ⟨_, rfl, .inl ⟨rfl, _, SqL.of hl⟩, L, _, rfl, rfl, hl, _, rfl, ?_⟩
      rw [← List.map_reverse]
      have oeq : ∀ b, b ≠ L → off M (L2.upd H' L (.lst ((ws.take j).reverse.map V.ref))) b = off M H' b := fun b hb => by
        unfold off
        by_cases z : b ∈ M
        · rw [if_pos z, if_pos z]
        · rw [if_neg z, if_neg z, upd_ne hb]
      have out2 : Same (off M H) (off M (L2.upd H' L (.lst ((ws.take j).reverse.map V.ref)))) := fun b o q => by
        rw [oeq b (ne_of_none (off_same _ _ _ _ q) hL)]
        exact out _ _ q
      have hwn2 := paired_same out2 hwn
      have split : ∀ {α β : Type} {F : α → β → Prop} (n : Nat) {l : List α} {m : List β}, Paired F l m → Paired F (l.take n) (m.take n) ∧ Paired F (l.drop n) (m.drop n) := by
        intro α β F n
        induction n with
        | zero => intro l m h; exact ⟨.nil, h⟩
        | succ n ih =>
          intro l m h
          cases h with
          | nil => exact ⟨.nil, .nil⟩
          | cons a b => exact ⟨.cons a (ih b).1, (ih b).2⟩
      have rev : ∀ {α β : Type} {F : α → β → Prop} {l : List α} {m : List β}, Paired F l m → Paired F l.reverse m.reverse := by
        intro α β F l m h
        induction h with
        | nil => exact .nil
        | cons a b ih => rw [List.reverse_cons, List.reverse_cons]; exact paired_append ih a
      obtain ⟨g1, g2⟩ := split j hwn2
      have e1 : (waitOf ms).take j = ms.cur.take j := by unfold waitOf; rw [List.take_append_of_le_length hkl]
      have e2 : (waitOf ms).drop j = waitOf { ms with cur := ms.cur.drop j } := by unfold waitOf; rw [List.drop_append_of_le_length hkl]
      rw [e1] at g1
      rw [e2] at g2
      refine kk hkl L _ _ hL (off_get upd_same LM) (rev g1) ⟨dx, lr, lw, lc, ts, ws.drop j, cs, D.setW (s' := { ms with cur := ms.cur.drop j }) (fun y hy hyw => ?_) out2 rfl rfl ?_ g2⟩ out2
      · rw [upd_ne (show y ≠ L from fun z => LM (z ▸ hy))]
        exact ins y hy hyw
      · rw [upd_ne nLw]
        exact hw
theorem scTakeO : FnScope ["self"] ["self"] (defScope (sRec 4)) := ⟨rfl, rfl, rfl, by decide +kernel, rfl, by decide +kernel, by decide +kernel⟩
theorem ok_takeO {f fF C R CC Cn fI : Addr} {fd dF dI : FuncData} (F : Fun K "take_only" "Recovery.take_only" (sRec 4) f fd) (FF : Fm K R "free" "Recovery.free" (sRec 2) fF dF ["self"]) (T : RT K mg C R CC) (X : XC P w K mg base "NoCode" Cn fI dI (-3)) : FnOk P w K mg base (CXr P w) 4 f fd ["self"] (spTakeOnly C R CC Cn) := by
  have GF : FnOk P w K mg base (CXr P w) 1 fF dF _ _ := ok_free FF.F T
  refine okX F scTakeO (fun vs H Q E h => ?_) (fun cdv A outer s H vs Q E hr h => ?_)
  · obtain ⟨_, _, _, _, rfl, _⟩ := h
    rfl
  · obtain ⟨r, M, c, ms, rfl, hrec, kk, kr⟩ := h
    obtain ⟨dx, lr, lw, lc, ts, ws, cs, D⟩ := id hrec
    have hr1 : Room 1 _ := hr.mono (by omega)
    refine ⟨_, pss_cons (ps_if (pt_cmpR op_ne (pe_meth0 (pv 0) T.R.cl FF.me GF hr1 FF.b .nil passes) pe_int (nomark _)) (pss_one (ps_raise X.made X.cls X.ok hr rfl X.m X.b rfl throws_of)) pss_nil)
      (pss_one (ps_ret (pe_bm0 PySem.F.plainAttrs_list PySem.F.slot_list_pop PySem.F.type_list_pop mt_pop (pe_fld (pv 0) rfl)))), ?_⟩
    refine ⟨_, rfl, r, dx, _, rfl, D.obj, rfl, r, M, c, ms, rfl, hrec, rfl, _, rfl, ?_⟩
    refine ite2 (fun h => ?_) fun h => ?_
    · refine ((kr fun e he => ?_).mono (off_same M H)).go
      rw [he] at h
      cases h
    · have hlen : ms.cur.length = 1 := by
        have : ¬ ¬ V.int (ms.cur.length : Nat) = V.int 1 := fun z => h (by simpa using z)
        have := vint_inj (Classical.not_not.mp this)
        omega
      obtain ⟨e, he⟩ : ∃ e, ms.cur = [e] := by
        match hc : ms.cur, hlen with
        | [e], _ => exact ⟨e, rfl⟩
      have hwn := D.wn
      unfold waitOf at hwn
      rw [he] at hwn
      obtain ⟨m1, m2, m3, m4, n1, n2, n3, n4⟩ := D.rM
      cases hwn with
      | @cons _ b _ ws' hb hws =>
        have hwl := D.wl
        rw [rev_map_cons] at hwl
        refine ⟨_, rfl, r, R, dx, _, _, rfl, D.obj, T.R.cl, T.R.nW, rfl, .inl ⟨rfl, _, SqL.of hwl⟩, lw, _, _, rfl, rfl, hwl, pop_last, ?_⟩
        rw [List.dropLast_concat]
        have ho : off M (L2.upd H lw (.lst (ws'.reverse.map V.ref))) = off M H := off_upd m2
        refine kk e he b _ (by rw [ho]; exact hb) ⟨dx, lr, lw, lc, ts, ws', cs, D.setW (ws' := ws') (s' := { ms with cur := [] }) (fun y _ hy => upd_ne hy) (by rw [ho]; exact Same.refl _) rfl rfl upd_same (by rw [ho]; exact hws)⟩ (by rw [ho]; exact Same.refl _)
end
end SB
end
section
set_option Elab.async false
set_option maxRecDepth 100000
set_option maxHeartbeats 4000000
set_option linter.all false
namespace SB
open PySem PySem.Spec PyProof.Rows L2 XL
open Vbdeaa (Text Exp Exps Un Bin Ins)
open MX (insOk hd Cut MS Ch belowAll)
theorem exL_exps : ∀ l : List Exp, exL (Vbdeam.exps l) = l
  | [] => rfl
  | e :: r => by show e :: exL (Vbdeam.exps r) = _; rw [exL_exps r]
theorem txS_text (s : String) : txS (Vbdeaa.text s) = Str.ofString s := by
  refine TL.ext_tl ?_
  unfold txS
  rw [TL.tl_mk, text_ofString, List.map_map]
  conv => rhs; rw [← List.map_id (TL.tl (Str.ofString s))]
  exact List.map_congr_left fun c _ => by simp
theorem txS_append (a b : Text) : txS (a ++ b) = txS a ++ txS b := by
  refine TL.ext_tl ?_
  rw [TL.tl_append]
  unfold txS
  rw [TL.tl_mk, TL.tl_mk, TL.tl_mk, List.map_append]
theorem txS_made (s : String) (n : Nat) : txS (Vbdeam.made s n) = Str.ofString s ++ strI (n : Int) := by
  unfold Vbdeam.made Vbdeaa.decimal
  rw [txS_append, txS_text, txS_text]
  rfl
structure NK (P : Program) (w : World) (K : PySem.W.Frag) (mg : Str → Option Value) (base : Heap) (C fN : Addr) (dN : FuncData) : Prop where
  mk_ : Mk K C fN
  ok : FnOk P w K mg base (CXr P w) 1 fN dN ["self", "form", "detail", "parts"] (spNode C)
  b : Binds K dN ["self", "form", "detail", "parts"] []
  m : mg "Node" = some (.ref C)
def spFormula (C : Addr) : Sp := fun vs H Q _ => ∃ (M : List Addr) (f : Nat) (l : Addr) (es : List Exp) (as : List Addr), vs = [.int f, .ref l] ∧ (∀ b ∈ M, ∃ o, H b = some o) ∧ f < 64 ∧ es.length ≤ 8 ∧ off M H l = some (.lst (as.map V.ref)) ∧ Paired (NodeAt C (off M H)) es as ∧
  ∀ x H2, H x = none → Keep M H H2 → NodeAt C (off M H2) (if es = [] then .name (Vbdeam.nameOf 11 f) else .use (Vbdeam.nameOf 11 f) (Vbdeam.exps es)) x → Q (.ref x) H2
def spPick (C : Addr) : Sp := fun vs H Q _ => ∃ (M : List Addr) (g : Bool) (l : Addr) (x y : Exp) (as : List Addr), vs = [.int (if g = true then 1 else 0), .ref l] ∧ (∀ b ∈ M, ∃ o, H b = some o) ∧ off M H l = some (.lst (as.map V.ref)) ∧ Paired (NodeAt C (off M H)) [x, y] as ∧ (kids y).length < 1900 ∧
  ∀ a H2, H a = none → Keep M H H2 → NodeAt C (off M H2) (Vbdeam.joinBest g x y) a → Q (.ref a) H2
abbrev sFormula : Stmt := top 64
abbrev sPick : Stmt := top 65
theorem str1 {n : Nat} (h : n < 1000000000000000000) : (strI (n : Int)).length + 1 ≤ sizeLine := by
  have := len_strN (n := n) (by omega)
  have : (1000 : Nat) ≤ sizeLine := by decide
  omega
section
variable {P : Program} {w : World} {K : PySem.W.Frag} {mg : Str → Option Value} {base : Heap}
theorem scFormula : FnScope ["formula", "parts"] ["formula", "parts"] (defScope sFormula) := ⟨rfl, rfl, rfl, by decide +kernel, rfl, by decide +kernel, by decide +kernel⟩
theorem ok_formula {f C R CC fN : Addr} {fd dN : FuncData} (F : Fn K mg "formula_node" sFormula f fd ["formula", "parts"]) (T : RT K mg C R CC) (NN : NK P w K mg base C fN dN) : FnOk P w K mg base (CXr P w) 3 f fd ["formula", "parts"] (spFormula C) := by
  refine okX F.F scFormula (fun vs H Q E h => ?_) (fun cdv A outer s H vs Q E hr h => ?_)
  · obtain ⟨_, _, _, _, _, rfl, _⟩ := h
    rfl
  · obtain ⟨M, f0, l, es, as, rfl, hM, hf, hes, hl, hp, k⟩ := h
    refine ⟨_, pss_one (ps_ret (pe_make NN.mk_ NN.ok hr rfl NN.m NN.b .nil passes (pa_cons (pe_ifExp (pt_truth (pv 1) (fun _ => rfl)) (pe_gi rfl T.S.CALL) (pe_gi rfl T.P.NAME)) (pa_cons (pe_op op_add_str pe_str (pe_callTy call_str_int (by rfl) T.P.str (by decide +kernel) (pa_cons (pv 0) pa_nil))) (pa_cons (pv 1) pa_nil))))), ?_⟩
    have hl0 := off_same _ _ _ _ hl
    have hlen := Paired.length hp
    refine ⟨_, rfl, _, .inl ⟨_, SqL.of hl0, rfl⟩, ?_⟩
    have g1 : (f0 : Int).natAbs.log2 < 1920 := log_ok (by omega)
    have e1 : (Str.ofString "g").length + (strI (f0 : Int)).length ≤ sizeLine := by
      have := str1 (n := f0) (by omega)
      have : (Str.ofString "g").length = 1 := by decide +kernel
      omega
    have et : txS (Vbdeam.nameOf 11 f0) = Str.ofString "g" ++ strI (f0 : Int) := txS_made "g" f0
    cases es with
    | nil =>
      cases hp
      refine iteF ⟨_, rfl, _, rfl, g1, _, _, rfl, rfl, e1, _, rfl, ?_⟩
      rw [if_pos rfl] at k
      exact mk_nodeM (e := .name (Vbdeam.nameOf 11 f0)) hM (show _ = _ by rw [et]; rfl) hl .nil (by decide) k
    | cons x r =>
      cases hp with
      | @cons _ a _ as' ha hr' =>
        refine iteT ⟨_, rfl, _, rfl, g1, _, _, rfl, rfl, e1, _, rfl, ?_⟩
        rw [if_neg (by simp)] at k
        refine mk_nodeM (e := .use (Vbdeam.nameOf 11 f0) (Vbdeam.exps (x :: r))) hM (show _ = _ by rw [et]; rfl) hl (by show Paired _ (exL (Vbdeam.exps (x :: r))) _; rw [exL_exps]; exact .cons ha hr') (by rw [← hlen]; omega) k
theorem scPick : FnScope ["detail", "parts", "last"] ["detail", "parts"] (defScope sPick) := ⟨rfl, rfl, rfl, by decide +kernel, rfl, by decide +kernel, by decide +kernel⟩
theorem ok_pick {f C R CC fN : Addr} {fd dN : FuncData} (F : Fn K mg "pick_node" sPick f fd ["detail", "parts"]) (T : RT K mg C R CC) (NN : NK P w K mg base C fN dN) : FnOk P w K mg base (CXr P w) 3 f fd ["detail", "parts"] (spPick C) := by
  refine okX F.F scPick (fun vs H Q E h => ?_) (fun cdv A outer s H vs Q E hr h => ?_)
  · obtain ⟨_, _, _, _, _, _, rfl, _⟩ := h
    rfl
  · obtain ⟨M, g, l, x, y, as, rfl, hM, hl, hp, hky, k⟩ := h
    refine ⟨_, pss_cons (ps_set (i := 2) scPick.nd rfl (Or.inl rfl) (pe_ix ix_list (pv 1) pe_int (fun _ _ => rfl)))
      (pss_cons (ps_if (PW.pt (pw_and (pt_cmpR op_eq (pe_fld (pv 2) rfl) (pe_gi rfl T.P.PICK) (nomark _)) (pw_and1 (pt_cmpR op_eq (pe_fld (pv 2) rfl) (pv 0) (nomark _)))))
        (pss_one (ps_ret (pe_make NN.mk_ NN.ok hr rfl NN.m NN.b .nil passes (pa_cons (pe_gi rfl T.P.PICK) (pa_cons (pv 0) (pa_cons (pe_op op_cat (pe_lst (pa_cons (pe_ix ix_list (pv 1) pe_int (fun _ _ => rfl)) pa_nil)) (pe_fld (pv 2) rfl)) pa_nil)))))) pss_nil)
      (pss_one (ps_ret (pe_make NN.mk_ NN.ok hr rfl NN.m NN.b .nil passes (pa_cons (pe_gi rfl T.P.PICK) (pa_cons (pv 0) (pa_cons (pv 1) pa_nil))))))), ?_⟩
    obtain ⟨a, b, rfl, ha, hb⟩ : ∃ a b, as = [a, b] ∧ NodeAt C (off M H) x a ∧ NodeAt C (off M H) y b := by
      cases hp with
      | cons a0 b0 => cases b0 with
        | cons a1 b1 => cases b1; exact ⟨_, _, rfl, a0, a1⟩
    have hl0 := off_same _ _ _ _ hl
    obtain ⟨dx, D, lb, bs, h1, hD, hlb, hpb⟩ := node_of hb
    have h1' := off_same _ _ _ _ h1
    have N := T.N
    have gi : ∀ g h : Bool, (V.int (if h = true then 1 else 0) = V.int (if g = true then 1 else 0)) ↔ h = g := by decide
    have two : Vbdeam.joinBest g x y = .best g (.cons x (.cons y .nil)) → ∀ x' dx', H x' = none → H dx' = none → dx' ≠ x' → spNode C [.ref x', .int 7, .int (if g = true then 1 else 0), .ref l] (L2.upd (L2.upd H dx' (.own x')) x' (.ins C dx' [])) (fun v H2 => v = .non ∧ Q (.ref x') H2) E := fun hj => by
      rw [hj] at k
      exact mk_nodeM (e := .best g (.cons x (.cons y .nil))) hM rfl hl (.cons ha (.cons hb .nil)) (by show 2 < 2000; decide) k
    refine ⟨_, rfl, l, _, _, _, rfl, rfl, SqL.of hl0, at_of (j := 1) rfl rfl, ?_⟩
    refine ⟨_, rfl, b, C, dx, _, _, rfl, h1', N.cl, N.nF, rfl, rfl, _, rfl, ?_⟩
    refine ite2 (fun hc => ?_) fun hc => ?_
    · have hf : formN y = 7 := vint_inj (of_decide_eq_true hc)
      cases y with
      | best h lst =>
        obtain rfl : D = .int (if h = true then 1 else 0) := hD
        refine ⟨_, rfl, b, C, dx, _, _, rfl, h1', N.cl, N.nD, rfl, _, rfl, rfl, _, rfl, ?_⟩
        refine ite2 (fun hc2 => ?_) fun hc2 => ?_
        · have hg : h = g := (gi g h).mp (of_decide_eq_true hc2)
          subst hg
          have hj : Vbdeam.joinBest h x (.best h lst) = .best h (.cons x lst) := by unfold Vbdeam.joinBest; simp
          rw [hj] at k
          refine ⟨_, rfl, _, rfl, l, _, _, _, rfl, rfl, SqL.of hl0, at_of (j := 0) rfl rfl, by show 1 ≤ sizeLine; decide, fun l1 hl1 => ?_⟩
          have s1 := Same.upd (o := .lst [V.ref a]) hl1
          have k1 := Keep.of_same hM s1
          have hlb1 := s1 _ _ (off_same _ _ _ _ hlb)
          refine ⟨_, rfl, b, C, dx, _, _, rfl, s1 _ _ h1', N.cl, N.nP, rfl, l1, lb, _, _, rfl, rfl, upd_same, hlb1, ?_, fun l2 hl2 => ?_⟩
          · have := Paired.length hpb
            rw [List.length_map, ← this]
            show 1 + _ ≤ sizeLine
            have : (2000 : Nat) ≤ sizeLine := by decide
            omega
          have s2 := s1.trans (Same.upd (o := .lst ([V.ref a] ++ bs.map V.ref)) hl2)
          have k2 := Keep.of_same hM s2
          have hM2 : ∀ b ∈ M, ∃ o, (L2.upd (L2.upd H l1 (.lst [V.ref a])) l2 (.lst ([V.ref a] ++ bs.map V.ref))) b = some o := fun b hb => by
            obtain ⟨o, ho⟩ := hM b hb
            exact ⟨o, s2 _ _ ho⟩
          have l2M : l2 ∉ M := fun z => by
            obtain ⟨o, ho⟩ := hM l2 z
            rw [s1 _ _ ho] at hl2
            cases hl2
          refine mk_nodeM (e := .best h (.cons x lst)) (as := a :: bs) hM2 rfl (off_get upd_same l2M) (.cons (ha.same k2.out) (paired_same k2.out hpb)) ?_ fun z H3 hz kz nz => k z H3 (s2.free hz) (k2.trans kz) nz
          have := Paired.length hpb
          rw [List.length_cons, ← this]
          omega
        · have hne : h ≠ g := fun z => hc2 (decide_eq_true ((gi g h).mpr z))
          have hj : Vbdeam.joinBest g x (.best h lst) = .best g (.cons x (.cons (.best h lst) .nil)) := by unfold Vbdeam.joinBest; simp [hne]
          exact ⟨_, rfl, _, rfl, two hj⟩
      | _ => cases hf
    · have hj : Vbdeam.joinBest g x y = .best g (.cons x (.cons y .nil)) := by
        cases y with
        | best h lst => exact absurd (by rfl) hc
        | _ => rfl
      exact ⟨_, rfl, _, rfl, two hj⟩
end
end SB
end
section
set_option Elab.async false
set_option maxRecDepth 100000
set_option maxHeartbeats 4000000
set_option linter.all false
namespace SB
open PySem PySem.Spec PyProof.Rows L2 XL
open Vbdeaa (Text Exp Exps Un Bin Ins)
open MX (insOk hd Cut MS Ch belowAll)
theorem un_ix (o : Un) : (Vbdeaa.UNS.findIdx fun x => x == o) = unIx o := by cases o <;> decide +kernel
theorem bin_ix (o : Bin) : (Vbdeaa.BINS.findIdx fun x => x == o) = binIx o := by cases o <;> decide +kernel
def isPlain : Ins → Prop
  | .zero _ => False
  | .jump _ => False
  | .truth => False
  | _ => True
theorem sumS_mem {l : List Exp} {e : Exp} (h : e ∈ l) : Vbdeam.size e ≤ MX.sumS l := by
  induction l with
  | nil => cases h
  | cons x r ih =>
    simp only [MX.sumS]
    rcases List.mem_cons.mp h with h | h
    · subst h; omega
    · have := ih h; omega
theorem exL_size : ∀ (l : Exps), (exL l).length ≤ Vbdeam.sizeAll l
  | .nil => Nat.le_refl _
  | .cons e l => by
    have := exL_size l
    have := MX.size_pos e
    simp only [exL, List.length_cons, Vbdeam.sizeAll]
    omega
theorem kids_size (e : Exp) : (kids e).length < Vbdeam.size e + 3 := by
  cases e with
  | best g l => have := exL_size l; simp only [kids, Vbdeam.size]; omega
  | use n l => have := exL_size l; simp only [kids, Vbdeam.size]; omega
  | _ => simp [kids, Vbdeam.size] <;> omega
structure RF (P : Program) (w : World) (K : PySem.W.Frag) (mg : Str → Option Value) (base : Heap) (C R CC Cn fI : Addr) (dI : FuncData) (fN fT fO fFo fPi fNa : Addr) (dN dT dO dFo dPi dNa : FuncData) : Prop where
  T : RT K mg C R CC
  X : XC P w K mg base "NoCode" Cn fI dI (-3)
  N : NK P w K mg base C fN dN
  tp : FnOk P w K mg base (CXr P w) 4 fT dT ["self", "count"] (spTakeParts C R CC Cn)
  tpm : Meth K R "take_parts" fT
  tpb : Binds K dT ["self", "count"] []
  to : FnOk P w K mg base (CXr P w) 4 fO dO ["self"] (spTakeOnly C R CC Cn)
  tom : Meth K R "take_only" fO
  tob : Binds K dO ["self"] []
  fo : FnOk P w K mg base (CXr P w) 3 fFo dFo ["formula", "parts"] (spFormula C)
  fof : Fn K mg "formula_node" sFormula fFo dFo ["formula", "parts"]
  pi_ : FnOk P w K mg base (CXr P w) 3 fPi dPi ["detail", "parts"] (spPick C)
  pif : Fn K mg "pick_node" sPick fPi dPi ["detail", "parts"]
  na : FnOk P w K mg base (CXr P w) 1 fNa dNa ["number"] spName
  naf : Fn K mg "name_of_read" sName fNa dNa ["number"]
def spPlainN (C R CC Cn : Addr) : Sp := fun vs H Q E => ∃ (r t : Addr) (M : List Addr) (c : Vbdeaa.Code) (s : MS) (n : Nat) (i : Ins), vs = [.ref r, .ref t] ∧ Rec C R CC H r M c s ∧ off M H t = some (.tup (vI i.told)) ∧ insOk n i = true ∧ n ≤ 8 ∧ isPlain i ∧ MX.sumS s.cur ≤ 1000 ∧
  (∀ e rest, Vbdeam.plain n i s.cur = some (e :: rest) → ∀ a H', NodeAt C (off M H') e a → Rec C R CC H' r M c { s with cur := rest } → Same (off M H) (off M H') → Q (.ref a) H') ∧ (Vbdeam.plain n i s.cur = none → RaiseC Cn (-3) (off M H) E)
section
variable {P : Program} {w : World} {K : PySem.W.Frag} {mg : Str → Option Value} {base : Heap}
theorem scPlainN : FnScope ["self", "row", "first"] ["self", "row"] (defScope (sRec 6)) := ⟨rfl, rfl, rfl, by decide +kernel, rfl, by decide +kernel, by decide +kernel⟩
theorem ok_plainN {f C R CC Cn fI : Addr} {fd dI : FuncData} {fN fT fO fFo fPi fNa : Addr} {dN dT dO dFo dPi dNa : FuncData} (F : Fun K "plain_node" "Recovery.plain_node" (sRec 6) f fd) (G : RF P w K mg base C R CC Cn fI dI fN fT fO fFo fPi fNa dN dT dO dFo dPi dNa) : FnOk P w K mg base (CXr P w) 5 f fd ["self", "row"] (spPlainN C R CC Cn) := by
  refine okX F scPlainN (fun vs H Q E h => ?_) (fun cdv A outer s H vs Q E hr h => ?_)
  · obtain ⟨_, _, _, _, _, _, _, rfl, _⟩ := h
    rfl
  · obtain ⟨r, t, M, c, ms, n, i, rfl, hrec, ht, hok, hn8, hpl, hsz, k, kr⟩ := h
    obtain ⟨dx, lr, lw, lc, ts, ws, cs, D⟩ := id hrec
    have hr1 : Room 1 _ := hr.mono (by omega)
    have hr2 : Room 2 _ := hr.mono (by omega)
    have hr3 : Room 3 _ := hr.mono (by omega)
    have T := G.T
    have NN := G.N
    refine ⟨_, pss_cons (ps_set (i := 2) scPlainN.nd rfl (Or.inl rfl) (pe_ix ix_tup (pv 1) pe_int (fun _ _ => rfl)))
      (pss_cons (ps_if (pt_cmpR op_eq (pv 2) pe_int (nomark _)) (pss_one (ps_ret (pe_make NN.mk_ NN.ok hr2 rfl NN.m NN.b .nil passes (pa_cons (pe_gi rfl T.P.NUMBER) (pa_cons (pe_tup (pa_cons (pe_ix ix_tup (pv 1) pe_int (fun _ _ => rfl)) (pa_cons (pe_ix ix_tup (pv 1) pe_int (fun _ _ => rfl)) pa_nil))) (pa_cons (pe_lst pa_nil) pa_nil)))))) pss_nil)
      (pss_cons (ps_if (pt_cmpR op_eq (pv 2) pe_int (nomark _)) (pss_one (ps_ret (pe_make NN.mk_ NN.ok hr2 rfl NN.m NN.b .nil passes (pa_cons (pe_gi rfl T.P.NAME) (pa_cons (pe_op op_add_str pe_str (pe_callTy call_str_int (by rfl) T.P.str (by decide +kernel) (pa_cons (pe_ix ix_tup (pv 1) pe_int (fun _ _ => rfl)) pa_nil))) (pa_cons (pe_lst pa_nil) pa_nil)))))) pss_nil)
      (pss_cons (ps_if (pt_cmpR op_eq (pv 2) pe_int (nomark _)) (pss_one (ps_ret (pe_make NN.mk_ NN.ok hr2 rfl NN.m NN.b .nil passes (pa_cons (pe_gi rfl T.P.NAME) (pa_cons (pe_call G.na hr1 rfl G.naf.m G.naf.F.kp G.naf.b .nil passes (pa_cons (pe_ix ix_tup (pv 1) pe_int (fun _ _ => rfl)) pa_nil)) (pa_cons (pe_lst pa_nil) pa_nil)))))) pss_nil)
      (pss_cons (ps_if (pt_cmpR op_eq (pv 2) pe_int (nomark _)) (pss_one (ps_ret (pe_make NN.mk_ NN.ok hr2 rfl NN.m NN.b .nil passes (pa_cons (pe_gi rfl T.Q.ONE) (pa_cons (pe_ix ix_tup (pv 1) pe_int (fun _ _ => rfl)) (pa_cons (pe_meth (pv 0) T.R.cl G.tpm G.tp hr G.tpb .nil passes (pa_cons pe_int pa_nil)) pa_nil)))))) pss_nil)
      (pss_cons (ps_if (pt_cmpR op_eq (pv 2) pe_int (nomark _)) (pss_one (ps_ret (pe_make NN.mk_ NN.ok hr2 rfl NN.m NN.b .nil passes (pa_cons (pe_gi rfl T.Q.TWO) (pa_cons (pe_ix ix_tup (pv 1) pe_int (fun _ _ => rfl)) (pa_cons (pe_meth (pv 0) T.R.cl G.tpm G.tp hr G.tpb .nil passes (pa_cons pe_int pa_nil)) pa_nil)))))) pss_nil)
      (pss_cons (ps_if (pt_cmpR op_eq (pv 2) pe_int (nomark _)) (pss_one (ps_ret (pe_make NN.mk_ NN.ok hr2 rfl NN.m NN.b .nil passes (pa_cons (pe_gi rfl T.S.CALL) (pa_cons (pe_op op_add_str pe_str (pe_callTy call_str_int (by rfl) T.P.str (by decide +kernel) (pa_cons (pe_ix ix_tup (pv 1) pe_int (fun _ _ => rfl)) pa_nil))) (pa_cons (pe_meth (pv 0) T.R.cl G.tpm G.tp hr G.tpb .nil passes (pa_cons pe_int pa_nil)) pa_nil)))))) pss_nil)
      (pss_cons (ps_if (pt_cmpR op_eq (pv 2) pe_int (nomark _)) (pss_one (ps_ret (pe_call G.fo hr3 rfl G.fof.m G.fof.F.kp G.fof.b .nil passes (pa_cons (pe_ix ix_tup (pv 1) pe_int (fun _ _ => rfl)) (pa_cons (pe_meth (pv 0) T.R.cl G.tpm G.tp hr G.tpb .nil passes (pa_cons (pe_ix ix_tup (pv 1) pe_int (fun _ _ => rfl)) pa_nil)) pa_nil))))) pss_nil)
      (pss_one (ps_ret (pe_call G.pi_ hr3 rfl G.pif.m G.pif.F.kp G.pif.b .nil passes (pa_cons (pe_ix ix_tup (pv 1) pe_int (fun _ _ => rfl)) (pa_cons (pe_meth (pv 0) T.R.cl G.tpm G.tp hr G.tpb .nil passes (pa_cons pe_int pa_nil)) pa_nil)))))))))))), ?_⟩
    have ht0 := off_same _ _ _ _ ht
    have hM := D.there
    have keepR : ∀ {H1 H2 : Hp} {s1 : MS}, Rec C R CC H1 r M c s1 → Keep M H1 H2 → Rec C R CC H2 r M c s1 := fun ⟨a1, a2, a3, a4, a5, a6, a7, d⟩ kp => ⟨a1, a2, a3, a4, a5, a6, a7, d.keep kp⟩
    have thereR : ∀ {H1 : Hp} {s1 : MS}, Rec C R CC H1 r M c s1 → ∀ b ∈ M, ∃ o, H1 b = some o := fun ⟨a1, a2, a3, a4, a5, a6, a7, d⟩ => d.there
    have fin : ∀ {e : Exp} {rest : List Exp} {H1 : Hp}, Vbdeam.plain n i ms.cur = some (e :: rest) → Rec C R CC H1 r M c { ms with cur := rest } → Same (off M H) (off M H1) → ∀ x H2, H1 x = none → Keep M H1 H2 → NodeAt C (off M H2) e x → Q (.ref x) H2 := fun hp rc sm x H2 _ kp nd => k _ _ hp x H2 nd (keepR rc kp) (sm.trans kp.out)
    have leaf : ∀ {e : Exp} {D : V} {H1 : Hp}, kids e = [] → Vbdeam.plain n i ms.cur = some (e :: ms.cur) → Same H H1 → DetOk (off M H1) e D → ∀ L, H1 L = none → ∀ x dx, (L2.upd H1 L (.lst [])) x = none → (L2.upd H1 L (.lst [])) dx = none → dx ≠ x →
        spNode C [.ref x, .int (formN e), D, .ref L] (L2.upd (L2.upd (L2.upd H1 L (.lst [])) dx (.own x)) x (.ins C dx [])) (fun v H2 => v = .non ∧ Q (.ref x) H2) E := fun {e D H1} hk hp s1 hD L hL => by
      have s2 := s1.trans (Same.upd (o := .lst []) hL)
      have k2 := Keep.of_same hM s2
      have LM : L ∉ M := fun z => by
        obtain ⟨o, ho⟩ := hM L z
        rw [s1 _ _ ho] at hL
        cases hL
      have s3 := Keep.of_same (M := M) (fun b hb => by obtain ⟨o, ho⟩ := hM b hb; exact ⟨o, s1 _ _ ho⟩) (Same.upd (o := .lst []) hL)
      exact mk_nodeM (as := []) (thereR (keepR hrec k2)) (detOk_same (fun b xs q => s3.out b _ q) hD) (off_get upd_same LM) (by rw [hk]; exact .nil) (by decide) (fin hp (keepR hrec k2) k2.out)
    refine ⟨_, rfl, t, _, _, _, rfl, rfl, SqT.of ht0, at_of (j := 0) (v := (vI i.told)[0]?.getD .non) rfl (by cases i <;> rfl), ?_⟩
    cases i with
    | zero _ => exact False.elim hpl
    | jump _ => exact False.elim hpl
    | truth => exact False.elim hpl
    | push q =>
      have hq : Vbdeam.plain n (.push q) ms.cur = some (.num q :: ms.cur) := by
        have h : (Vbdeaa.proper q && decide (0 ≤ q.1)) = true := hok
        simp only [Bool.and_eq_true, decide_eq_true_eq] at h
        unfold Vbdeam.plain
        simp only
        rw [if_pos h]
      refine ⟨_, rfl, rfl, _, rfl, iteT ⟨_, rfl, t, _, _, _, rfl, rfl, SqT.of ht0, at_of (j := 1) rfl rfl, _, rfl, t, _, _, _, rfl, rfl, SqT.of ht0, at_of (j := 2) rfl rfl, by show 2 ≤ sizeLine; decide, fun Tt hT => ⟨by decide, fun L hL => ?_⟩⟩⟩
      have TM : Tt ∉ M := fun z => by
        obtain ⟨o, ho⟩ := hM Tt z
        rw [hT] at ho
        cases ho
      exact leaf (e := .num q) rfl hq (Same.upd hT) ⟨Tt, rfl, off_get upd_same TM⟩ L hL
    | arg j =>
      have hj : j < n := of_decide_eq_true hok
      have hq : Vbdeam.plain n (.arg j) ms.cur = some (.name (Vbdeam.argName j) :: ms.cur) := by
        unfold Vbdeam.plain
        simp only
        rw [if_pos hj]
      refine ⟨_, rfl, rfl, _, rfl, iteF ⟨_, rfl, rfl, _, rfl, iteT ⟨_, rfl, t, _, _, _, rfl, rfl, SqT.of ht0, at_of (j := 1) rfl rfl, _, rfl, log_ok (by omega), _, _, rfl, rfl, ?_, by decide, fun L hL => ?_⟩⟩⟩
      · have := str1 (n := j) (by omega)
        have : (Str.ofString "a").length = 1 := by decide +kernel
        show (Str.ofString "a").length + (strI (j : Int)).length ≤ sizeLine
        omega
      · exact leaf (e := .name (Vbdeam.argName j)) rfl hq (Same.refl H) (show _ = _ by rw [show Vbdeam.argName j = Vbdeam.made "a" j from rfl, txS_made]; rfl) L hL
    | var j =>
      have hj : (Vbdeam.readName j).isSome = true := hok
      obtain ⟨nm, hnm⟩ := Option.isSome_iff_exists.mp hj
      have hq : Vbdeam.plain n (.var j) ms.cur = some (.name nm :: ms.cur) := by
        unfold Vbdeam.plain
        simp only
        rw [hnm]
        rfl
      refine ⟨_, rfl, rfl, _, rfl, iteF ⟨_, rfl, rfl, _, rfl, iteF ⟨_, rfl, rfl, _, rfl, iteT ⟨_, rfl, t, _, _, _, rfl, rfl, SqT.of ht0, at_of (j := 1) rfl rfl, _, rfl, fun H1 s1 => ⟨by decide, fun L hL => ?_⟩⟩⟩⟩⟩
      exact leaf (e := .name nm) rfl hq s1 (show _ = _ by rw [(name_read hnm).1]) L hL
    | un o =>
      refine ⟨_, rfl, rfl, _, rfl, iteF ⟨_, rfl, rfl, _, rfl, iteF ⟨_, rfl, rfl, _, rfl, iteF ⟨_, rfl, rfl, _, rfl, iteT ⟨_, rfl, t, _, _, _, rfl, rfl, SqT.of ht0, at_of (j := 1) rfl rfl, _, rfl, r, dx, _, rfl, D.obj, rfl, r, M, c, ms, 1, rfl, hrec, by decide, fun hl => ?_, fun hl => kr ?_⟩⟩⟩⟩⟩
      · cases hcur : ms.cur with
        | nil => rw [hcur] at hl; exact absurd hl (by decide)
        | cons x st =>
          intro l as H' hl0 hl1 hp hrc sm
          rw [un_ix]
          have hp' : Paired (NodeAt C (off M H')) [x] as := hp
          exact mk_nodeM (e := .un o x) (thereR hrc) rfl hl1 hp' (by rw [← Paired.length hp']; show 1 < 2000; decide) (fin (by rw [hcur]; rfl) hrc sm)
      · cases hcur : ms.cur with
        | nil => rfl
        | cons x st => rw [hcur] at hl; simp at hl
    | bin o =>
      refine ⟨_, rfl, rfl, _, rfl, iteF ⟨_, rfl, rfl, _, rfl, iteF ⟨_, rfl, rfl, _, rfl, iteF ⟨_, rfl, rfl, _, rfl, iteF ⟨_, rfl, rfl, _, rfl, iteT ⟨_, rfl, t, _, _, _, rfl, rfl, SqT.of ht0, at_of (j := 1) rfl rfl, _, rfl, r, dx, _, rfl, D.obj, rfl, r, M, c, ms, 2, rfl, hrec, by decide, fun hl => ?_, fun hl => kr ?_⟩⟩⟩⟩⟩⟩
      · match hcur : ms.cur with
        | [] => rw [hcur] at hl; exact absurd hl (by decide)
        | [x] => rw [hcur] at hl; exact absurd hl (by show ¬ 2 ≤ 1; decide)
        | y :: x :: st =>
          intro l as H' hl0 hl1 hp hrc sm
          rw [bin_ix]
          have hp' : Paired (NodeAt C (off M H')) [x, y] as := hp
          exact mk_nodeM (e := .bin o x y) (thereR hrc) rfl hl1 hp' (by rw [← Paired.length hp']; show 2 < 2000; decide) (fin (by rw [hcur]; rfl) hrc sm)
      · match hcur : ms.cur with
        | [] => rfl
        | [x] => rfl
        | y :: x :: st => rw [hcur] at hl; simp at hl; omega
    | table j =>
      have hj : j < 64 := of_decide_eq_true hok
      refine ⟨_, rfl, rfl, _, rfl, iteF ⟨_, rfl, rfl, _, rfl, iteF ⟨_, rfl, rfl, _, rfl, iteF ⟨_, rfl, rfl, _, rfl, iteF ⟨_, rfl, rfl, _, rfl, iteF ⟨_, rfl, rfl, _, rfl, iteT ⟨_, rfl, t, _, _, _, rfl, rfl, SqT.of ht0, at_of (j := 1) rfl rfl, _, rfl, log_ok (by omega), _, _, rfl, rfl, ?_, _, rfl, r, dx, _, rfl, D.obj, rfl, r, M, c, ms, 1, rfl, hrec, by decide, fun hl => ?_, fun hl => kr ?_⟩⟩⟩⟩⟩⟩⟩
      · have := str1 (n := j) (by omega)
        have : (Str.ofString "t").length = 1 := by decide +kernel
        show (Str.ofString "t").length + (strI (j : Int)).length ≤ sizeLine
        omega
      · cases hcur : ms.cur with
        | nil => rw [hcur] at hl; exact absurd hl (by decide)
        | cons x st =>
          intro l as H' hl0 hl1 hp hrc sm
          have hp' : Paired (NodeAt C (off M H')) [x] as := hp
          exact mk_nodeM (e := .use (Vbdeam.nameOf 10 j) (.cons x .nil)) (thereR hrc) (show _ = _ by rw [show Vbdeam.nameOf 10 j = Vbdeam.made "t" j from rfl, txS_made]; rfl) hl1 hp' (by rw [← Paired.length hp']; show 1 < 2000; decide) (fin (by rw [hcur]; unfold Vbdeam.plain; simp only; rw [if_pos hj]; rfl) hrc sm)
      · cases hcur : ms.cur with
        | nil => rfl
        | cons x st => rw [hcur] at hl; simp at hl
    | call j m =>
      have hjm : j < 64 ∧ m ≤ 8 := by
        have h : (decide (j < 64) && decide (m ≤ 8)) = true := hok
        simpa using h
      refine ⟨_, rfl, rfl, _, rfl, iteF ⟨_, rfl, rfl, _, rfl, iteF ⟨_, rfl, rfl, _, rfl, iteF ⟨_, rfl, rfl, _, rfl, iteF ⟨_, rfl, rfl, _, rfl, iteF ⟨_, rfl, rfl, _, rfl, iteF ⟨_, rfl, rfl, _, rfl, iteT ⟨_, rfl, t, _, _, _, rfl, rfl, SqT.of ht0, at_of (j := 1) rfl rfl, _, rfl, r, dx, _, rfl, D.obj, rfl, _, rfl, t, _, _, _, rfl, rfl, SqT.of ht0, at_of (j := 2) rfl rfl, r, M, c, ms, m, rfl, hrec, hjm.2, fun hl => ?_, fun hl => kr ?_⟩⟩⟩⟩⟩⟩⟩⟩
      · intro l as H' hl0 hl1 hp hrc sm
        refine ⟨M, j, l, _, as, rfl, thereR hrc, hjm.1, ?_, hl1, hp, fin ?_ hrc sm⟩
        · rw [List.length_reverse, List.length_take]
          omega
        · unfold Vbdeam.plain
          simp only
          rw [if_neg (by omega)]
          by_cases hm : m = 0
          · subst hm
            simp
          · rw [if_neg hm, if_neg]
            intro z
            have := congrArg List.length z
            rw [List.length_reverse, List.length_take, List.length_nil] at this
            omega
      · unfold Vbdeam.plain
        simp only
        rw [if_pos (by omega)]
    | best g =>
      refine ⟨_, rfl, rfl, _, rfl, iteF ⟨_, rfl, rfl, _, rfl, iteF ⟨_, rfl, rfl, _, rfl, iteF ⟨_, rfl, rfl, _, rfl, iteF ⟨_, rfl, rfl, _, rfl, iteF ⟨_, rfl, rfl, _, rfl, iteF ⟨_, rfl, rfl, _, rfl, iteF ⟨_, rfl, t, _, _, _, rfl, rfl, SqT.of ht0, at_of (j := 1) rfl rfl, _, rfl, r, dx, _, rfl, D.obj, rfl, r, M, c, ms, 2, rfl, hrec, by decide, fun hl => ?_, fun hl => kr ?_⟩⟩⟩⟩⟩⟩⟩⟩
      · match hcur : ms.cur with
        | [] => rw [hcur] at hl; exact absurd hl (by decide)
        | [x] => rw [hcur] at hl; exact absurd hl (by show ¬ 2 ≤ 1; decide)
        | y :: x :: st =>
          intro l as H' hl0 hl1 hp hrc sm
          refine ⟨M, g, l, x, y, as, rfl, thereR hrc, hl1, hp, ?_, fin (by rw [hcur]; rfl) hrc sm⟩
          have h1 := kids_size y
          have h2 := sumS_mem (l := ms.cur) (e := y) (by rw [hcur]; exact List.mem_cons_self)
          omega
      · match hcur : ms.cur with
        | [] => rfl
        | [x] => rfl
        | y :: x :: st => rw [hcur] at hl; simp at hl; omega
end
end SB
end
section
set_option Elab.async false
set_option maxRecDepth 100000
set_option maxHeartbeats 4000000
set_option linter.all false
namespace SB
open PySem PySem.Spec PyProof.Rows L2 XL
open Vbdeaa (Text Exp Exps Un Bin Ins)
open MX (insOk hd Cut MS Ch belowAll)
def Small (s : MS) : Prop := MX.sumS s.cur + MX.chsS s.chs + s.chs.length ≤ 1000
theorem Small.wait {s : MS} (h : Small s) : (waitOf s).length ≤ 1000 := by
  unfold Small at h
  unfold waitOf
  rw [List.length_append]
  have h1 := MX.length_sumS s.cur
  have h2 := MX.length_sumS (belowAll s.chs)
  have h3 := MX.belowAll_S s.chs
  omega
def spTakePl (C R CC Cn : Addr) : Sp := fun vs H Q E => ∃ (r t : Addr) (M : List Addr) (c : Vbdeaa.Code) (s : MS) (n : Nat) (i : Ins), vs = [.ref r, .ref t] ∧ Rec C R CC H r M c s ∧ off M H t = some (.tup (vI i.told)) ∧ insOk n i = true ∧ n ≤ 8 ∧ isPlain i ∧ Small s ∧
  (∀ st, Vbdeam.plain n i s.cur = some st → ∀ H', Rec C R CC H' r M c ⟨s.pos + 1, st, s.chs⟩ → Same (off M H) (off M H') → Q .non H') ∧ (Vbdeam.plain n i s.cur = none → RaiseC Cn (-3) (off M H) E)
def spBegin (C R CC Cn : Addr) : Sp := fun vs H Q E => ∃ (r : Addr) (M : List Addr) (c : Vbdeaa.Code) (s : MS) (k : Nat), vs = [.ref r, .int k] ∧ Rec C R CC H r M c s ∧ MX.WF c s ∧ Small s ∧
  (∀ t, MX.begin_ c k s = some t → ∀ M' H', Rec C R CC H' r M' c t → Same (off M H) (off M' H') → Q .non H') ∧ (MX.begin_ c k s = none → RaiseC Cn (-3) (off M H) E)
def spGoOn (C R CC Cn : Addr) : Sp := fun vs H Q E => ∃ (r : Addr) (M : List Addr) (c : Vbdeaa.Code) (s : MS), vs = [.ref r] ∧ Rec C R CC H r M c s ∧ MX.WF c s ∧
  (∀ t, MX.jump s = some t → ∀ H', Rec C R CC H' r M c t → Same (off M H) (off M H') → Q .non H') ∧ (MX.jump s = none → RaiseC Cn (-3) (off M H) E)
theorem putF_fp (cd : Addr) (s m e b : Int) (fp v : V) : putF "first_part" v (choF cd s m e b fp) = choF cd s m e b v := by rfl
theorem RecD.setP {C R CC : Addr} {H : Hp} {r : Addr} {M : List Addr} {c : Vbdeaa.Code} {s : MS} {dx lr lw lc : Addr} {ts ws cs : List Addr} (D : RecD C R CC H r M c s dx lr lw lc ts ws cs) (p : Nat) : RecD C R CC (L2.upd H r (.ins R dx (recF lr (p : Int) lw lc))) r M c ⟨p, s.cur, s.chs⟩ dx lr lw lc ts ws cs := by
  obtain ⟨m1, m2, m3, m4, n1, n2, n3, n4⟩ := D.rM
  have ho : off M (L2.upd H r (.ins R dx (recF lr (p : Int) lw lc))) = off M H := off_upd m1
  exact D.next (s' := ⟨p, s.cur, s.chs⟩) (by rw [ho]; exact Same.refl _) upd_same (by rw [upd_ne (Ne.symm n1)]; exact D.wl) (by rw [ho]; exact D.wn) (by rw [upd_ne (Ne.symm n2)]; exact D.cl) (by rw [ho]; exact D.cn.mono (Same.refl _) fun b hb => upd_ne (n4 b hb).1)
section
variable {P : Program} {w : World} {K : PySem.W.Frag} {mg : Str → Option Value} {base : Heap}
theorem scTakePl : FnScope ["self", "row", "node"] ["self", "row"] (defScope (sRec 5)) := ⟨rfl, rfl, rfl, by decide +kernel, rfl, by decide +kernel, by decide +kernel⟩
theorem ok_takePl {f fP C R CC Cn : Addr} {fd dP : FuncData} (F : Fun K "take_plain" "Recovery.take_plain" (sRec 5) f fd) (T : RT K mg C R CC) (FP : Fm K R "plain_node" "Recovery.plain_node" (sRec 6) fP dP ["self", "row"]) (GP : FnOk P w K mg base (CXr P w) 5 fP dP ["self", "row"] (spPlainN C R CC Cn)) : FnOk P w K mg base (CXr P w) 6 f fd ["self", "row"] (spTakePl C R CC Cn) := by
  refine okX F scTakePl (fun vs H Q E h => ?_) (fun cdv A outer s H vs Q E hr h => ?_)
  · obtain ⟨_, _, _, _, _, _, _, rfl, _⟩ := h
    rfl
  · obtain ⟨r, t, M, c, ms, n, i, rfl, hrec, ht, hok, hn8, hpl, hsm, k, kr⟩ := h
    obtain ⟨dx, lr, lw, lc, ts, ws, cs, D⟩ := id hrec
    refine ⟨_, pss_cons (ps_set (i := 2) scTakePl.nd rfl (Or.inl rfl) (pe_meth (pv 0) T.R.cl FP.me GP hr FP.b .nil passes (pa_cons (pv 1) pa_nil)))
      (pss_cons (ps_expr (pe_bm PySem.F.plainAttrs_list PySem.F.slot_list_append PySem.F.type_list_append mt_append (pe_fld (pv 0) rfl) (pa_cons (pv 2) pa_nil)))
      (pss_one (ps_fldaug (pv 0) pe_int in_add))), ?_⟩
    refine ⟨_, rfl, r, dx, _, rfl, D.obj, rfl, _, rfl, r, t, M, c, ms, n, i, rfl, hrec, ht, hok, hn8, hpl, by unfold Small at hsm; omega, ?_, kr⟩
    rintro e rest hp a H1 hna ⟨dx1, lr1, lw1, lc1, ts1, ws1, cs1, D1⟩ sm
    obtain ⟨m1, m2, m3, m4, n1, n2, n3, n4⟩ := D1.rM
    refine ⟨_, rfl, r, R, dx1, _, _, rfl, D1.obj, T.R.cl, T.R.nW, rfl, .inl ⟨rfl, _, SqL.of D1.wl⟩, _, rfl, lw1, _, _, rfl, rfl, D1.wl, ?_, ?_⟩
    · rw [List.length_map, List.length_reverse, ← Paired.length D1.wn]
      have h1 := MX.plain_size hp
      have h2 := MX.length_sumS rest
      have h3 := MX.length_sumS (belowAll ms.chs)
      have h4 := MX.belowAll_S ms.chs
      simp only [MX.sumS] at h1
      unfold Small at hsm
      unfold waitOf
      rw [List.length_append]
      refine Nat.lt_of_le_of_lt (?_ : _ ≤ 3000) (by decide)
      show rest.length + (belowAll ms.chs).length ≤ 3000
      omega
    have ho : off M (L2.upd H1 lw1 (.lst (ws1.reverse.map V.ref ++ [V.ref a]))) = off M H1 := off_upd m2
    have D2 : RecD C R CC (L2.upd H1 lw1 (.lst (ws1.reverse.map V.ref ++ [V.ref a]))) r M c ⟨ms.pos, e :: rest, ms.chs⟩ dx1 lr1 lw1 lc1 ts1 (a :: ws1) cs1 :=
      D1.setW (s' := ⟨ms.pos, e :: rest, ms.chs⟩) (fun b _ hb => upd_ne hb) (by rw [ho]; exact Same.refl _) rfl rfl (by rw [upd_same, rev_map_cons]) (by rw [ho]; exact .cons hna D1.wn)
    refine ⟨_, rfl, r, R, dx1, _, _, rfl, D2.obj, T.R.cl, T.R.nA, rfl, _, _, rfl, rfl, dx1, _, D2.obj, by show 4 < 1000; decide, ?_⟩
    have D3 := D2.setP (ms.pos + 1)
    refine k _ hp _ ⟨dx1, lr1, lw1, lc1, ts1, a :: ws1, cs1, ?_⟩ ?_
    · exact D3
    · show Same (off M H) (off M (L2.upd _ r _))
      rw [off_upd m1, ho]
      exact sm
end
end SB
end
section
set_option Elab.async false
set_option maxRecDepth 100000
set_option maxHeartbeats 4000000
set_option linter.all false
namespace SB
open PySem PySem.Spec PyProof.Rows L2 XL
open Vbdeaa (Text Exp Exps Un Bin Ins)
open MX (insOk hd Cut MS Ch belowAll)
theorem RecD.row {C R CC : Addr} {H : Hp} {r : Addr} {M : List Addr} {c : Vbdeaa.Code} {s : MS} {dx lr lw lc : Addr} {ts ws cs : List Addr} (D : RecD C R CC H r M c s dx lr lw lc ts ws cs) {p : Nat} {i : Ins} (h : c[p]? = some i) : ∃ t, atI (ts.map V.ref) (p : Int) = some (V.ref t) ∧ off M H t = some (.tup (vI i.told)) := by
  have hp : (rowsT c)[p]? = some i.told := by unfold rowsT; rw [List.getElem?_map, h]; rfl
  obtain ⟨t, ht, hq⟩ := paired_get D.told hp
  exact ⟨t, atI_nat (by rw [List.getElem?_map, ht]; rfl), hq⟩
theorem RecD.len {C R CC : Addr} {H : Hp} {r : Addr} {M : List Addr} {c : Vbdeaa.Code} {s : MS} {dx lr lw lc : Addr} {ts ws cs : List Addr} (D : RecD C R CC H r M c s dx lr lw lc ts ws cs) : (ts.map V.ref).length = c.length := by
  rw [List.length_map, ← Paired.length D.told]
  unfold rowsT
  rw [List.length_map]
def ins0 : Ins → Int
  | .push _ => 0 | .arg _ => 1 | .var _ => 2 | .un _ => 3 | .bin _ => 4 | .jump _ => 5 | .zero _ => 6 | .table _ => 7 | .call _ _ => 8 | .truth => 9 | .best _ => 10
theorem told0 (i : Ins) : atI (vI i.told) 0 = some (V.int (ins0 i)) := at_of (j := 0) rfl (by cases i <;> rfl)
theorem ins0_jump {i : Ins} (h : ins0 i = 5) : ∃ m, i = .jump m := by cases i <;> first | exact ⟨_, rfl⟩ | cases h
structure ChK (P : Program) (w : World) (K : PySem.W.Frag) (mg : Str → Option Value) (base : Heap) (CC fC fL : Addr) (dC dL : FuncData) : Prop where
  mk_ : Mk K CC fC
  ok : FnOk P w K mg base (CXr P w) 1 fC dC ["self", "condition", "start", "middle", "end", "base"] (spChoI CC)
  b : Binds K dC ["self", "condition", "start", "middle", "end", "base"] []
  m : mg "Choice" = some (.ref CC)
  lim : FnOk P w K mg base (CXr P w) 1 fL dL ["self"] (spLimit CC)
  limm : Meth K CC "limit" fL
  limb : Binds K dL ["self"] []
section
variable {P : Program} {w : World} {K : PySem.W.Frag} {mg : Str → Option Value} {base : Heap}
theorem scGoOn : FnScope ["self", "choice"] ["self"] (defScope (sRec 8)) := ⟨rfl, rfl, rfl, by decide +kernel, rfl, by decide +kernel, by decide +kernel⟩
theorem ok_goOn {f C R CC Cn fI : Addr} {fd dI : FuncData} {fN fT fO fFo fPi fNa : Addr} {dN dT dO dFo dPi dNa : FuncData} (F : Fun K "go_on_choice" "Recovery.go_on_choice" (sRec 8) f fd) (G : RF P w K mg base C R CC Cn fI dI fN fT fO fFo fPi fNa dN dT dO dFo dPi dNa) : FnOk P w K mg base (CXr P w) 5 f fd ["self"] (spGoOn C R CC Cn) := by
  have T := G.T
  have X := G.X
  refine okX F scGoOn (fun vs H Q E h => ?_) (fun cdv A outer s H vs Q E hr h => ?_)
  · obtain ⟨_, _, _, _, rfl, _⟩ := h
    rfl
  · obtain ⟨r, M, c, ms, rfl, hrec, wf, k, kr⟩ := h
    obtain ⟨dx, lr, lw, lc, ts, ws, cs, D⟩ := id hrec
    have hr3 : Room 3 _ := hr.mono (by omega)
    refine ⟨_, pss_cons (ps_if (pt_not (pt_truth (pe_fld (pv 0) rfl) (fun _ => rfl))) (pss_one (ps_raise X.made X.cls X.ok hr3 rfl X.m X.b rfl throws_of)) pss_nil)
      (pss_cons (ps_set (i := 1) scGoOn.nd rfl (Or.inl rfl) (pe_ix ix_list (pe_fld (pv 0) rfl) (pe_un un_neg pe_int) (fun _ _ => rfl)))
      (pss_cons (ps_if (pt_cmpR op_ne (pe_fld (pv 0) rfl) (pe_op op_sub (pe_fld (pv 1) rfl) pe_int) (nomark _)) (pss_one (ps_raise X.made X.cls X.ok hr3 rfl X.m X.b rfl throws_of)) pss_nil)
      (pss_cons (ps_fld (pv 1) (pe_meth0 (pv 0) T.R.cl G.tom G.to hr G.tob .nil passes) rfl)
      (pss_one (ps_fldaug (pv 0) pe_int in_add))))), ?_⟩
    have bad : MX.jump ms = none → RaiseC Cn (-3) H E := fun h => (kr h).mono (off_same M H)
    refine ⟨_, rfl, r, R, dx, _, _, rfl, D.obj, T.R.cl, T.R.nC, rfl, _, .inl ⟨_, SqL.of D.cl, rfl⟩, ?_⟩
    have hcn := D.cn
    cases hs : ms.chs with
    | nil =>
      rw [hs] at hcn
      cases hcn
      refine iteT (bad ?_).go
      unfold MX.jump
      rw [hs]
      split <;> first | rfl | (rename_i h; cases h) | (rename_i h _; cases h)
    | cons x q =>
      rw [hs] at hcn
      cases hcn with
      | @cons _ _ a dxa cd as fp h1 h2 h3 h4 =>
        have hcl := D.cl
        rw [rev_map_cons] at hcl ⊢
        rw [show (!(as.reverse.map V.ref ++ [V.ref a]).isEmpty) = true by simp]
        have ch := wf.chain
        rw [hs] at ch
        obtain ⟨c1, c2, c3, c4, c5, c6⟩ := ch
        refine iteF ⟨_, rfl, r, R, dx, _, _, rfl, D.obj, T.R.cl, T.R.nC, rfl, _, rfl, lc, _, _, _, rfl, rfl, SqL.of hcl, atI_last, ?_⟩
        refine ⟨_, rfl, r, R, dx, _, _, rfl, D.obj, T.R.cl, T.R.nA, rfl, _, rfl, a, CC, dxa, _, _, rfl, h1, T.H.cl, T.H.nM, rfl, _, _, rfl, rfl, rfl, _, rfl, ite2 (fun hne => ?_) fun hne => ?_⟩
        · refine (bad ?_).go
          unfold MX.jump
          rw [hs]
          split
          · rename_i e1 x' r' hcur hcs
            cases hcs
            rw [if_neg]
            intro z
            have : ¬ V.int (ms.pos : Nat) = V.int ((x.middle : Nat) - 1) := by simpa using hne
            exact this (by congr 1; omega)
          · rfl
        have hmid : ms.pos + 1 = x.middle := by
          have : V.int (ms.pos : Nat) = V.int ((x.middle : Nat) - 1) := by simpa using hne
          have := vint_inj this
          omega
        refine ⟨_, rfl, r, dx, _, rfl, D.obj, rfl, r, M, c, ms, rfl, hrec, ?_, fun hno => kr ?_⟩
        · rintro e he b H1 hnb ⟨dx1, lr1, lw1, lc1, ts1, ws1, cs1, D1⟩ sm
          obtain ⟨m1, m2, m3, m4, n1, n2, n3, n4⟩ := D1.rM
          obtain ⟨ew, el, ecs⟩ : lw1 = lw ∧ lc1 = lc ∧ cs1 = a :: as := by
            have e1 := D1.mem
            rw [D.mem] at e1
            injection e1 with _ e1
            injection e1 with e2 e1
            injection e1 with e3 e1
            exact ⟨e2.symm, e3.symm, e1.symm⟩
          subst ecs
          have hcn1 : ChsAt C CC (off M H1) H1 (x :: q) (a :: as) := by
            have := D1.cn
            rw [show ({ ms with cur := [] } : MS).chs = x :: q from hs] at this
            exact this
          have nd := D1.nd
          rw [D1.mem] at nd
          simp only [List.nodup_cons, List.mem_cons, not_or] at nd
          cases hcn1 with
          | @cons _ _ _ dxa1 cd1 _ fp1 g1 g2 g3 g4 =>
            have na := n4 a List.mem_cons_self
            refine ⟨_, rfl, a, CC, dxa1, _, rfl, g1, T.H.cl, T.H.nF, by show 6 < 1000; decide, ?_⟩
            rw [putF_fp]
            have aM : a ∈ M := m4 a List.mem_cons_self
            have ho : off M (L2.upd H1 a (.ins CC dxa1 (choF cd1 (x.start : Nat) (x.middle : Nat) (x.end_ : Nat) ((belowAll (x :: q)).length : Nat) (.ref b)))) = off M H1 := off_upd aM
            have D2 : RecD C R CC (L2.upd H1 a (.ins CC dxa1 (choF cd1 (x.start : Nat) (x.middle : Nat) (x.end_ : Nat) ((belowAll (x :: q)).length : Nat) (.ref b)))) r M c ⟨ms.pos, [], { x with first := some e } :: q⟩ dx1 lr1 lw1 lc1 ts1 ws1 (a :: as) := by
              refine D1.next (s' := ⟨ms.pos, [], { x with first := some e } :: q⟩) (by rw [ho]; exact Same.refl _) (by rw [upd_ne (Ne.symm na.1)]; exact D1.obj) (by rw [upd_ne (Ne.symm na.2.1)]; exact D1.wl) ?_ (by rw [upd_ne (Ne.symm na.2.2)]; exact D1.cl) ?_
              · rw [ho]
                have := D1.wn
                unfold waitOf at this ⊢
                rw [show ({ ms with cur := [] } : MS).chs = x :: q from hs] at this
                exact this
              · refine .cons (fp := .ref b) upd_same (by rw [ho]; exact g2) ⟨b, rfl, by rw [ho]; exact hnb⟩ (g4.mono (by rw [ho]; exact Same.refl _) fun y hy => upd_ne fun z => ?_)
                subst z
                exact nd.2.2.2.1 hy
            refine ⟨_, rfl, r, R, dx1, _, _, rfl, D2.obj, T.R.cl, T.R.nA, rfl, _, _, rfl, rfl, dx1, _, D2.obj, by show 4 < 1000; decide, ?_⟩
            have D3 := D2.setP (ms.pos + 1)
            refine k ⟨ms.pos + 1, [], { x with first := some e } :: q⟩ ?_ _ ⟨dx1, lr1, lw1, lc1, ts1, ws1, a :: as, D3⟩ ?_
            · unfold MX.jump
              rw [hs, he]
              simp only
              rw [if_pos hmid]
            · show Same (off M H) (off M (L2.upd _ r _))
              rw [off_upd m1, ho]
              exact sm
        · unfold MX.jump
          rw [hs]
          split
          · rename_i e1 x' r' hcur hcs
            exact absurd hcur (hno e1)
          · rfl
end
end SB
end
section
set_option Elab.async false
set_option maxRecDepth 100000
set_option maxHeartbeats 4000000
set_option linter.all false
namespace SB
open PySem PySem.Spec PyProof.Rows L2 XL
open Vbdeaa (Text Exp Exps Un Bin Ins)
open MX (insOk hd Cut MS Ch belowAll)
theorem limit_int {C : Addr} {G : Hp} {x : Ch} {fp : V} (h : FirstAt C G x.first fp) (hm : x.start < x.middle) : (if fp = .non then ((x.middle : Nat) : Int) - 1 else ((x.end_ : Nat) : Int)) = ((x.limit : Nat) : Int) := by
  unfold Ch.limit
  cases hf : x.first with
  | none =>
    rw [hf] at h
    rw [if_pos (show fp = .non from h)]
    simp only
    omega
  | some f =>
    rw [hf] at h
    obtain ⟨a, rfl, _⟩ := h
    rw [if_neg (by intro z; cases z)]
section
variable {P : Program} {w : World} {K : PySem.W.Frag} {mg : Str → Option Value} {base : Heap}
theorem lim_read {C R CC : Addr} {H : Hp} {r : Addr} {M : List Addr} {c : Vbdeaa.Code} {s : MS} {dx lr lw lc : Addr} {ts ws cs : List Addr} (D : RecD C R CC H r M c s dx lr lw lc ts ws cs) (T : RT K mg C R CC) (ch : MX.Chain c s.pos s.chs) {σ : L2.St} {E : XK} (hσ : σ[0]? = some (some (.ref r))) {Q : VK} (h : Q (.int (MX.limitOf c s.chs : Nat)) H) :
    tIf (fun σ H Q => tFld K (tVar 0) "choices" σ H fun x H' => ∃ k, TruV K x H' k ∧ Q k H') (tMeth CC "limit" (spLimit CC) [] E (tOp (rIxL K) (tFld K (tVar 0) "choices") (tUn (rU fun i => V.int (-i)) (tC (.int 1)))) tNil)
      (tCB (fun xs H Q => ∃ p ys, xs = [V.ref p] ∧ (SqL K H p ys ∨ SqT K H p ys) ∧ Q (.int ys.length) H) (tCons (tFld K (tVar 0) "rows") tNil)) σ H Q := by
  refine ⟨_, hσ, r, R, dx, _, _, rfl, D.obj, T.R.cl, T.R.nC, rfl, _, .inl ⟨_, SqL.of D.cl, rfl⟩, ?_⟩
  have hcn := D.cn
  cases hs : s.chs with
  | nil =>
    rw [hs] at hcn h
    cases hcn
    refine iteF ⟨_, hσ, r, R, dx, _, _, rfl, D.obj, T.R.cl, T.R.nR, rfl, lr, _, rfl, .inl (SqL.of (off_same _ _ _ _ D.rows)), ?_⟩
    rw [D.len]
    exact h
  | cons x q =>
    rw [hs] at hcn h ch
    cases hcn with
    | @cons _ _ a dxa cd as fp h1 h2 h3 h4 =>
      have hcl := D.cl
      rw [rev_map_cons] at hcl ⊢
      rw [show (!(as.reverse.map V.ref ++ [V.ref a]).isEmpty) = true by simp]
      refine iteT ⟨_, hσ, r, R, dx, _, _, rfl, D.obj, T.R.cl, T.R.nC, rfl, _, rfl, lc, _, _, _, rfl, rfl, SqL.of hcl, atI_last, a, dxa, _, rfl, h1, rfl, a, dxa, cd, _, _, _, _, fp, rfl, h1, ?_⟩
      rw [limit_int h3 ch.2.2.1]
      exact h
theorem scBegin : FnScope ["self", "length", "condition", "limit", "middle", "end"] ["self", "length"] (defScope (sRec 7)) := ⟨rfl, rfl, rfl, by decide +kernel, rfl, by decide +kernel, by decide +kernel⟩
theorem ok_begin {f C R CC Cn fI fC fL : Addr} {fd dI dC dL : FuncData} {fN fT fO fFo fPi fNa : Addr} {dN dT dO dFo dPi dNa : FuncData} (F : Fun K "begin_choice" "Recovery.begin_choice" (sRec 7) f fd) (G : RF P w K mg base C R CC Cn fI dI fN fT fO fFo fPi fNa dN dT dO dFo dPi dNa) (W : ChK P w K mg base CC fC fL dC dL) : FnOk P w K mg base (CXr P w) 5 f fd ["self", "length"] (spBegin C R CC Cn) := by
  have T := G.T
  have X := G.X
  refine okX F scBegin (fun vs H Q E h => ?_) (fun cdv A outer s H vs Q E hr h => ?_)
  · obtain ⟨_, _, _, _, _, rfl, _⟩ := h
    rfl
  · obtain ⟨r, M, c, ms, n, rfl, hrec, wf, hsm, k, kr⟩ := h
    obtain ⟨dx, lr, lw, lc, ts, ws, cs, D⟩ := id hrec
    have hr3 : Room 3 _ := hr.mono (by omega)
    have hr2 : Room 2 _ := hr.mono (by omega)
    have hr1 : Room 1 _ := hr.mono (by omega)
    refine ⟨_, pss_cons (ps_set (i := 2) scBegin.nd rfl (Or.inl rfl) (pe_ix ix_list (pe_meth (pv 0) T.R.cl G.tpm G.tp hr G.tpb .nil passes (pa_cons pe_int pa_nil)) pe_int (fun _ _ => rfl)))
      (pss_cons (ps_set (i := 3) scBegin.nd rfl (Or.inl rfl) (pe_ifExp (pt_truth (pe_fld (pv 0) rfl) (fun _ => rfl)) (pe_meth0 (pe_ix ix_list (pe_fld (pv 0) rfl) (pe_un un_neg pe_int) (fun _ _ => rfl)) T.H.cl W.limm W.lim hr1 W.limb .nil passes) (pe_callB call_len_seq (by rfl) T.P.len (by decide +kernel) (pa_cons (pe_fld (pv 0) rfl) pa_nil))))
      (pss_cons (ps_set (i := 4) scBegin.nd rfl (Or.inl rfl) (pe_op op_add (pe_op op_add (pe_fld (pv 0) rfl) pe_int) (pv 1)))
      (pss_cons (ps_if (PW.pt (pw_or (pt_cmpR op_gt (pv 4) (pv 3) (nomark _)) (pw_or1 (pt_cmpR op_ne (pe_ix ix_tup (pe_ix ix_list (pe_fld (pv 0) rfl) (pe_op op_sub (pv 4) pe_int) (fun _ _ => rfl)) pe_int (fun _ _ => rfl)) pe_int (nomark _))))) (pss_one (ps_raise X.made X.cls X.ok hr3 rfl X.m X.b rfl throws_of)) pss_nil)
      (pss_cons (ps_set (i := 5) scBegin.nd rfl (Or.inl rfl) (pe_op op_add (pv 4) (pe_ix ix_tup (pe_ix ix_list (pe_fld (pv 0) rfl) (pe_op op_sub (pv 4) pe_int) (fun _ _ => rfl)) pe_int (fun _ _ => rfl))))
      (pss_cons (ps_if (pt_cmpR op_gt (pv 5) (pv 3) (nomark _)) (pss_one (ps_raise X.made X.cls X.ok hr3 rfl X.m X.b rfl throws_of)) pss_nil)
      (pss_cons (ps_expr (pe_bm PySem.F.plainAttrs_list PySem.F.slot_list_append PySem.F.type_list_append mt_append (pe_fld (pv 0) rfl) (pa_cons (pe_make W.mk_ W.ok hr2 rfl W.m W.b .nil passes (pa_cons (pv 2) (pa_cons (pe_fld (pv 0) rfl) (pa_cons (pv 4) (pa_cons (pv 5) (pa_cons (pe_callB call_len_seq (by rfl) T.P.len (by decide +kernel) (pa_cons (pe_fld (pv 0) rfl) pa_nil)) pa_nil)))))) pa_nil)))
      (pss_one (ps_fldaug (pv 0) pe_int in_add)))))))), ?_⟩
    have chn := wf.chain
    have hlim := chn.limit
    refine ⟨_, rfl, r, dx, _, rfl, D.obj, rfl, r, M, c, ms, 1, rfl, hrec, by decide, fun hl => ?_, fun hl => kr ?_⟩
    rotate_left
    · unfold MX.begin_
      cases hcur : ms.cur with
      | nil => rfl
      | cons x st => rw [hcur] at hl; simp at hl
    cases hcur : ms.cur with
    | nil => rw [hcur] at hl; exact absurd hl (by decide)
    | cons a0 st =>
      rintro l las H1 hl0 hl1 hp ⟨dx1, lr1, lw1, lc1, ts1, ws1, cs1, D1⟩ sm
      have D1 : RecD C R CC H1 r M c ⟨ms.pos, st, ms.chs⟩ dx1 lr1 lw1 lc1 ts1 ws1 cs1 := D1
      obtain ⟨cd, rfl, hcd⟩ : ∃ cd, las = [cd] ∧ NodeAt C (off M H1) a0 cd := by
        have hp : Paired (NodeAt C (off M H1)) [a0] las := hp
        cases hp with
        | cons z1 z2 => cases z2; exact ⟨_, rfl, z1⟩
      obtain ⟨m1, m2, m3, m4, n1, n2, n3, n4⟩ := D1.rM
      refine ⟨l, _, _, _, rfl, rfl, SqL.of (off_same _ _ _ _ hl1), at_of (j := 0) rfl rfl, ?_⟩
      have bad : MX.begin_ c n ms = none → RaiseC Cn (-3) H1 E := fun h => (kr h).mono (sm.trans (off_same M H1))
      refine lim_read (E := E) D1 T chn rfl ?_
      refine ⟨_, rfl, r, R, dx1, _, _, rfl, D1.obj, T.R.cl, T.R.nA, rfl, _, _, rfl, rfl, _, rfl, _, _, rfl, rfl, ?_⟩
      have hmid : ((ms.pos : Nat) : Int) + 1 + (n : Int) = ((ms.pos + 1 + n : Nat) : Int) := by omega
      refine ⟨_, rfl, _, rfl, _, _, rfl, rfl, _, rfl, ite2 (fun h1 => iteT (bad ?_).go) fun h1 => ?_⟩
      · have h1 : ((MX.limitOf c ms.chs : Nat) : Int) < (ms.pos : Nat) + 1 + (n : Int) := of_decide_eq_true h1
        unfold MX.begin_
        rw [hcur]
        simp only
        rw [if_pos (by omega)]
      have h1 : ms.pos + 1 + n ≤ MX.limitOf c ms.chs := by
        have : ¬ ((MX.limitOf c ms.chs : Nat) : Int) < (ms.pos : Nat) + 1 + (n : Int) := fun z => h1 (decide_eq_true z)
        omega
      obtain ⟨ii, hii⟩ : ∃ ii, c[ms.pos + n]? = some ii := ⟨_, List.getElem?_eq_getElem (by omega)⟩
      obtain ⟨t, hat, ht⟩ := D1.row hii
      have hat' : atI (ts1.map V.ref) (((ms.pos : Nat) : Int) + 1 + (n : Int) - 1) = some (V.ref t) := by
        rw [show ((ms.pos : Nat) : Int) + 1 + (n : Int) - 1 = ((ms.pos + n : Nat) : Int) by omega]
        exact hat
      have ht0 := off_same _ _ _ _ ht
      have hrows := off_same _ _ _ _ D1.rows
      refine ⟨_, rfl, r, R, dx1, _, _, rfl, D1.obj, T.R.cl, T.R.nR, rfl, _, rfl, _, _, rfl, rfl, lr1, _, _, _, rfl, rfl, SqL.of hrows, hat', t, _, _, _, rfl, rfl, SqT.of ht0, told0 ii, rfl, _, rfl, ite2 (fun h2 => (bad ?_).go) fun h2 => ?_⟩
      · unfold MX.begin_
        rw [hcur]
        simp only
        rw [if_neg (by omega), hii]
        simp only [Option.bind_some]
        have hne : ¬ V.int (ins0 ii) = V.int 5 := by simpa using h2
        cases ii with
        | jump m => exact absurd rfl hne
        | _ => rfl
      have h5 : ins0 ii = 5 := by
        have : V.int (ins0 ii) = V.int 5 := by simpa using h2
        exact vint_inj this
      obtain ⟨m, rfl⟩ := ins0_jump h5
      refine ⟨_, rfl, _, rfl, r, R, dx1, _, _, rfl, D1.obj, T.R.cl, T.R.nR, rfl, _, rfl, _, _, rfl, rfl, lr1, _, _, _, rfl, rfl, SqL.of hrows, hat', t, _, _, _, rfl, rfl, SqT.of ht0, at_of (j := 1) rfl rfl, _, _, rfl, rfl, ?_⟩
      refine ⟨_, rfl, _, rfl, _, _, rfl, rfl, _, rfl, ite2 (fun h3 => (bad ?_).go) fun h3 => ?_⟩
      · have h3 : ((MX.limitOf c ms.chs : Nat) : Int) < (ms.pos : Nat) + 1 + (n : Int) + (m : Int) := of_decide_eq_true h3
        unfold MX.begin_
        rw [hcur]
        simp only
        rw [if_neg (by omega), hii]
        simp only [Option.bind_some, Vbdeam.jumpOf]
        rw [if_pos (by omega)]
      have h3 : ms.pos + 1 + n + m ≤ MX.limitOf c ms.chs := by
        have : ¬ ((MX.limitOf c ms.chs : Nat) : Int) < (ms.pos : Nat) + 1 + (n : Int) + (m : Int) := fun z => h3 (decide_eq_true z)
        omega
      have hbeg : MX.begin_ c n ms = some ⟨ms.pos + 1, [], ⟨a0, ms.pos, ms.pos + 1 + n, ms.pos + 1 + n + m, none, st⟩ :: ms.chs⟩ := by
        unfold MX.begin_
        rw [hcur]
        simp only
        rw [if_neg (by omega), hii]
        simp only [Option.bind_some, Vbdeam.jumpOf]
        rw [if_neg (by omega)]
      refine ⟨_, rfl, r, R, dx1, _, _, rfl, D1.obj, T.R.cl, T.R.nC, rfl, .inl ⟨rfl, _, SqL.of D1.cl⟩, _, rfl, _, rfl, r, R, dx1, _, _, rfl, D1.obj, T.R.cl, T.R.nA, rfl, _, rfl, _, rfl, _, rfl, r, R, dx1, _, _, rfl, D1.obj, T.R.cl, T.R.nW, rfl, lw1, _, rfl, .inl (SqL.of D1.wl), fun x dxx hx hdx hne => ?_⟩
      have hwlen : (ws1.reverse.map V.ref).length = (belowAll (⟨a0, ms.pos, ms.pos + 1 + n, ms.pos + 1 + n + m, none, st⟩ :: ms.chs)).length := by
        rw [List.length_map, List.length_reverse, ← Paired.length D1.wn]
        rfl
      rw [hwlen]
      refine ⟨x, dxx, cd, _, _, _, _, rfl, upd_same, fun H2 sx hx2 => ⟨rfl, ?_⟩⟩
      have s12 : Same H1 H2 := fun b o q => sx b o (by rw [upd_ne (ne_of_none q hx), upd_ne (ne_of_none q hdx)]; exact q) (ne_of_none q hx)
      have K2 := Keep.of_same D1.there s12
      have D2 := D1.keep K2
      have xM : x ∉ M := fun z => by
        obtain ⟨o, ho⟩ := D1.there x z
        rw [hx] at ho
        cases ho
      refine ⟨lc1, _, _, rfl, rfl, D2.cl, ?_, ?_⟩
      · have hcl : cs1.length = ms.chs.length := by
          have : ∀ {chs : List Ch} {as : List Addr}, ChsAt C CC (off M H1) H1 chs as → as.length = chs.length := by
            intro chs as h
            induction h with
            | nil => rfl
            | cons _ _ _ _ ih => rw [List.length_cons, List.length_cons, ih]
          exact this D1.cn
        rw [List.length_map, List.length_reverse, hcl]
        unfold Small at hsm
        exact Nat.lt_of_le_of_lt (by omega : _ ≤ 1000) (by decide)
      have nlx : lc1 ≠ x := fun z => xM (z ▸ m3)
      have out : Same (off M H1) (off (r :: lw1 :: lc1 :: x :: cs1) (L2.upd H2 lc1 (.lst (cs1.reverse.map V.ref ++ [V.ref x])))) := fun b o q => by
        have bM := off_mem q
        have q1 := off_same _ _ _ _ q
        have bx : b ≠ x := ne_of_none q1 hx
        refine off_get ?_ ?_
        · rw [upd_ne (show b ≠ lc1 from fun z => bM (z ▸ m3))]
          exact s12 _ _ q1
        · rw [D1.mem] at bM
          simp only [List.mem_cons, not_or] at bM ⊢
          exact ⟨bM.1, bM.2.1, bM.2.2.1, bx, bM.2.2.2⟩
      have hx3 : H2 x = some (.ins CC dxx (choF cd (ms.pos : Nat) ((ms.pos + 1 + n : Nat) : Int) ((ms.pos + 1 + n + m : Nat) : Int) ((belowAll (⟨a0, ms.pos, ms.pos + 1 + n, ms.pos + 1 + n + m, none, st⟩ :: ms.chs)).length : Nat) .non)) := by
        rw [hx2, ← hmid, show ((ms.pos + 1 + n + m : Nat) : Int) = (ms.pos : Nat) + 1 + (n : Int) + (m : Int) by omega]
      have D3 : RecD C R CC (L2.upd H2 lc1 (.lst (cs1.reverse.map V.ref ++ [V.ref x]))) r (r :: lw1 :: lc1 :: x :: cs1) c ⟨ms.pos, [], ⟨a0, ms.pos, ms.pos + 1 + n, ms.pos + 1 + n + m, none, st⟩ :: ms.chs⟩ dx1 lr1 lw1 lc1 ts1 ws1 (x :: cs1) := by
        refine ⟨rfl, ?_, by rw [upd_ne n2]; exact D2.obj, out _ _ D1.rows, D1.told.same out, by rw [upd_ne n3]; exact D2.wl, paired_same out D1.wn, by rw [upd_same, rev_map_cons], ?_⟩
        · have nd := D1.nd
          rw [D1.mem] at nd xM
          simp only [List.nodup_cons, List.mem_cons, not_or] at nd xM ⊢
          obtain ⟨⟨z1, z2, z3⟩, ⟨z4, z5⟩, z6, z7⟩ := nd
          obtain ⟨y1, y2, y3, y4⟩ := xM
          exact ⟨⟨z1, z2, Ne.symm y1, z3⟩, ⟨z4, Ne.symm y2, z5⟩, ⟨Ne.symm y3, z6⟩, y4, z7⟩
        · refine .cons (fp := .non) (by rw [upd_ne (Ne.symm nlx)]; exact hx3) (hcd.same out) rfl (D1.cn.mono out fun b hb => ?_)
          rw [upd_ne (n4 b hb).2.2]
          exact K2.ins b (m4 b hb)
      refine ⟨_, rfl, r, R, dx1, _, _, rfl, D3.obj, T.R.cl, T.R.nA, rfl, _, _, rfl, rfl, dx1, _, D3.obj, by show 4 < 1000; decide, ?_⟩
      refine k _ hbeg _ _ ⟨dx1, lr1, lw1, lc1, ts1, ws1, x :: cs1, D3.setP (ms.pos + 1)⟩ ?_
      show Same (off M H) (off (r :: lw1 :: lc1 :: x :: cs1) (L2.upd _ r _))
      rw [off_upd List.mem_cons_self]
      exact sm.trans out
end
end SB
end
section
set_option Elab.async false
set_option maxRecDepth 100000
set_option maxHeartbeats 4000000
set_option linter.all false
namespace SB
open PySem PySem.Spec PyProof.Rows L2 XL
open Vbdeaa (Text Exp Exps Un Bin Ins)
open MX (insOk hd Cut MS Ch belowAll)
theorem eqvAll_ints : ∀ ns ms : List Int, PyData.eqvAll (ns.map PyData.int) (ms.map PyData.int) = decide (ns = ms)
  | [], [] => by simp [PyData.eqvAll]
  | [], m :: ms => by simp [PyData.eqvAll]
  | n :: ns, [] => by simp [PyData.eqvAll]
  | n :: ns, m :: ms => by
    simp only [List.map_cons, PyData.eqvAll, eqvAll_ints ns ms]
    simp [PyData.eqv, Bool.beq_eq_decide_eq]
theorem eqv_ints (ns ms : List Int) : PyData.eqv (.tuple (ns.map PyData.int)) (.tuple (ms.map PyData.int)) = decide (ns = ms) := by
  rw [← eqvAll_ints]
  rfl
theorem dp_ints {K : PySem.W.Frag} {H : Hp} : ∀ l : List Int, DpAll K H (vI l) (l.map PyData.int)
  | [] => .nil
  | n :: r => .cons (.int n) (dp_ints r)
theorem shaped3 (a b c : Int) : SeqAt.shaped (.tuple ([a, b, c].map PyData.int)) = true := by rfl
theorem shaped_told (i : Ins) : SeqAt.shaped (.tuple (i.told.map PyData.int)) = true := by cases i <;> rfl
def nineI (c : Vbdeaa.Code) (x : Ch) : Int := match x.first with
  | none => if MX.isAnd c x = true then (x.middle : Int) - 2 else -1
  | some _ => if MX.isOr c x = true then (x.end_ : Int) - 1 else -1
def spNine (C R CC : Addr) : Sp := fun vs H Q _ => ∃ (r dx lr lw lc a dxa cd : Addr) (i b : Int) (ts : List Addr) (c : Vbdeaa.Code) (x : Ch) (fp : V) (G : Hp), vs = [.ref r, .ref a] ∧ H r = some (.ins R dx (recF lr i lw lc)) ∧ H lr = some (.lst (ts.map V.ref)) ∧ RowsAt H c ts ∧
  H a = some (.ins CC dxa (choF cd (x.start : Nat) (x.middle : Nat) (x.end_ : Nat) b fp)) ∧ FirstAt C G x.first fp ∧ x.middle ≤ x.end_ ∧ x.end_ ≤ c.length ∧ Q (.int (nineI c x)) H
theorem row_at {H : Hp} {c : Vbdeaa.Code} {ts : List Addr} (h : RowsAt H c ts) {p : Nat} {i : Ins} (hi : c[p]? = some i) : ∃ t, atI (ts.map V.ref) (p : Int) = some (V.ref t) ∧ H t = some (.tup (vI i.told)) := by
  have hp : (rowsT c)[p]? = some i.told := by unfold rowsT; rw [List.getElem?_map, hi]; rfl
  obtain ⟨t, ht, hq⟩ := paired_get h hp
  exact ⟨t, atI_nat (by rw [List.getElem?_map, ht]; rfl), hq⟩
theorem zero_told (i : Ins) : decide (i.told = [0, 0, 1]) = Vbdeam.isZeroIns i := by
  cases i with
  | push q =>
    obtain ⟨a, b⟩ := q
    show decide ([0, a, (b : Int)] = [0, 0, 1]) = ((a, b) == ((0, 1) : Vbdeaa.Q))
    rw [Bool.eq_iff_iff]
    simp only [decide_eq_true_eq, beq_iff_eq, List.cons.injEq, and_true, true_and, Prod.mk.injEq]
    exact ⟨fun ⟨h1, h2⟩ => ⟨h1, by omega⟩, fun ⟨h1, h2⟩ => ⟨h1, by omega⟩⟩
  | _ => rfl
theorem one_told' (i : Ins) : decide (i.told = [0, 1, 1]) = Vbdeam.isOne i := by
  cases i with
  | push q =>
    obtain ⟨a, b⟩ := q
    show decide ([0, a, (b : Int)] = [0, 1, 1]) = ((a, b) == ((1, 1) : Vbdeaa.Q))
    rw [Bool.eq_iff_iff]
    simp only [decide_eq_true_eq, beq_iff_eq, List.cons.injEq, and_true, true_and, Prod.mk.injEq]
    exact ⟨fun ⟨h1, h2⟩ => ⟨h1, by omega⟩, fun ⟨h1, h2⟩ => ⟨h1, by omega⟩⟩
  | _ => rfl
section
variable {P : Program} {w : World} {K : PySem.W.Frag} {mg : Str → Option Value} {base : Heap}
theorem scNine : FnScope ["self", "choice", "is_and", "is_or"] ["self", "choice"] (defScope (sRec 10)) := ⟨rfl, rfl, rfl, by decide +kernel, rfl, by decide +kernel, by decide +kernel⟩
theorem ok_nine {f C R CC : Addr} {fd : FuncData} (F : Fun K "place_of_nine" "Recovery.place_of_nine" (sRec 10) f fd) (T : RT K mg C R CC) : FnOk P w K mg base (CXr P w) 1 f fd ["self", "choice"] (spNine C R CC) := by
  refine okX F scNine (fun vs H Q E h => ?_) (fun cdv A outer s H vs Q E hr h => ?_)
  · obtain ⟨_, _, _, _, _, _, _, _, _, _, _, _, _, _, _, rfl, _⟩ := h
    rfl
  · obtain ⟨r, dx, lr, lw, lc, a, dxa, cd, i, b, ts, c, x, fp, G, rfl, hr0, hlr, hrw, ha, hfp, hme, hec, k⟩ := h
    refine ⟨_, pss_cons (ps_if (pt_cmp (pc_isN (pe_fld (pv 1) rfl)))
        (pss_cons (ps_set (i := 2) scNine.nd rfl (Or.inl rfl) (pe_and (pe_cmpR op_eq (pe_fld (pv 1) rfl) (pe_op op_add (pe_fld (pv 1) rfl) pe_int) (nomark _)) (pe_one (pe_cmpR (op_eqD hr.units) (pe_ix ix_list (pe_fld (pv 0) rfl) (pe_fld (pv 1) rfl) (fun _ _ => rfl)) (pe_g rfl T.S.Z) (nomark _)))))
        (pss_one (ps_ret (pe_ifExp (pt_val (pv 2)) (pe_op op_sub (pe_fld (pv 1) rfl) pe_int) (pe_un un_neg pe_int))))) pss_nil)
      (pss_cons (ps_set (i := 3) scNine.nd rfl (Or.inl rfl) (pe_and (pe_cmpR op_eq (pe_fld (pv 1) rfl) (pe_op op_add (pe_fld (pv 1) rfl) pe_int) (nomark _)) (pe_one (pe_cmpR (op_eqD hr.units) (pe_ix ix_list (pe_fld (pv 0) rfl) (pe_op op_add (pe_fld (pv 1) rfl) pe_int) (fun _ _ => rfl)) (pe_g rfl T.S.O) (nomark _)))))
      (pss_one (ps_ret (pe_ifExp (pt_val (pv 3)) (pe_op op_sub (pe_fld (pv 1) rfl) pe_int) (pe_un un_neg pe_int))))), ?_⟩
    refine ⟨_, rfl, a, CC, dxa, _, _, rfl, ha, T.H.cl, T.H.nF, rfl, _, rfl, ?_⟩
    unfold nineI at k
    cases hf : x.first with
    | none =>
      rw [hf] at hfp k
      obtain rfl : fp = .non := hfp
      simp only at k
      refine iteT ?_
      refine ⟨_, rfl, a, CC, dxa, _, _, rfl, ha, T.H.cl, T.H.nE, rfl, _, rfl, a, CC, dxa, _, _, rfl, ha, T.H.cl, T.H.nM, rfl, _, _, rfl, rfl, rfl, _, rfl, ite2 (fun h1 => ?_) fun h1 => ?_⟩
      · have h1 : x.end_ = x.middle + 1 := by
          have := vint_inj (of_decide_eq_true h1)
          omega
        obtain ⟨ii, hii⟩ : ∃ ii, c[x.middle]? = some ii := ⟨_, List.getElem?_eq_getElem (by omega)⟩
        obtain ⟨t, hat, ht⟩ := row_at hrw hii
        refine ⟨_, rfl, r, R, dx, _, _, rfl, hr0, T.R.cl, T.R.nR, rfl, _, rfl, a, CC, dxa, _, _, rfl, ha, T.H.cl, T.H.nM, rfl, lr, _, _, _, rfl, rfl, SqL.of hlr, hat, fun v hv => ?_⟩
        obtain ⟨z, zs, rfl, hsq, hpz⟩ := hv.tup
        have ez := csts_ints hpz
        subst ez
        refine ⟨_, _, .tup (SqT.of ht) (dp_ints _), .tup (hsq H) (dp_ints [0, 0, 1]), shaped_told ii, shaped3 0 0 1, _, rfl, _, rfl, ?_⟩
        rw [eqv_ints, zero_told]
        have ea : MX.isAnd c x = Vbdeam.isZeroIns ii := by
          unfold MX.isAnd
          rw [hii, decide_eq_true h1]
          rfl
        cases hz : Vbdeam.isZeroIns ii with
        | true =>
          rw [ea, hz, if_pos rfl] at k
          exact iteT ⟨_, rfl, a, CC, dxa, _, _, rfl, ha, T.H.cl, T.H.nM, rfl, _, _, rfl, rfl, k⟩
        | false =>
          rw [ea, hz, if_neg (by decide)] at k
          exact iteF ⟨_, rfl, k⟩
      · have ea : MX.isAnd c x = false := by
          unfold MX.isAnd
          rw [decide_eq_false (fun z => h1 (decide_eq_true (by rw [z]; rfl))), Bool.false_and]
        rw [ea, if_neg (by decide)] at k
        exact ⟨_, rfl, _, rfl, iteF ⟨_, rfl, k⟩⟩
    | some f0 =>
      rw [hf] at hfp k
      obtain ⟨fa, rfl, _⟩ := hfp
      simp only at k
      refine iteF ?_
      refine ⟨_, rfl, a, CC, dxa, _, _, rfl, ha, T.H.cl, T.H.nM, rfl, _, rfl, a, CC, dxa, _, _, rfl, ha, T.H.cl, T.H.nS, rfl, _, _, rfl, rfl, rfl, _, rfl, ite2 (fun h1 => ?_) fun h1 => ?_⟩
      · have h1 : x.middle = x.start + 3 := by
          have := vint_inj (of_decide_eq_true h1)
          omega
        obtain ⟨ii, hii⟩ : ∃ ii, c[x.start + 1]? = some ii := ⟨_, List.getElem?_eq_getElem (by omega)⟩
        obtain ⟨t, hat, ht⟩ := row_at hrw hii
        refine ⟨_, rfl, r, R, dx, _, _, rfl, hr0, T.R.cl, T.R.nR, rfl, _, rfl, a, CC, dxa, _, _, rfl, ha, T.H.cl, T.H.nS, rfl, _, _, rfl, rfl, lr, _, _, _, rfl, rfl, SqL.of hlr, hat, fun v hv => ?_⟩
        obtain ⟨z, zs, rfl, hsq, hpz⟩ := hv.tup
        have ez := csts_ints hpz
        subst ez
        refine ⟨_, _, .tup (SqT.of ht) (dp_ints _), .tup (hsq H) (dp_ints [0, 1, 1]), shaped_told ii, shaped3 0 1 1, _, rfl, _, rfl, ?_⟩
        rw [eqv_ints, one_told']
        have ea : MX.isOr c x = Vbdeam.isOne ii := by
          unfold MX.isOr
          rw [hii, decide_eq_true h1]
          rfl
        cases hz : Vbdeam.isOne ii with
        | true =>
          rw [ea, hz, if_pos rfl] at k
          exact iteT ⟨_, rfl, a, CC, dxa, _, _, rfl, ha, T.H.cl, T.H.nE, rfl, _, _, rfl, rfl, k⟩
        | false =>
          rw [ea, hz, if_neg (by decide)] at k
          exact iteF ⟨_, rfl, k⟩
      · have ea : MX.isOr c x = false := by
          unfold MX.isOr
          rw [decide_eq_false (fun z => h1 (decide_eq_true (by rw [z]; rfl))), Bool.false_and]
        rw [ea, if_neg (by decide)] at k
        exact ⟨_, rfl, _, rfl, iteF ⟨_, rfl, k⟩⟩
end
end SB
end
section
set_option Elab.async false
set_option maxRecDepth 100000
set_option maxHeartbeats 4000000
set_option linter.all false
namespace SB
open PySem PySem.Spec PyProof.Rows L2 XL
open Vbdeaa (Text Exp Exps Un Bin Ins)
open MX (insOk hd Cut MS Ch belowAll)
theorem RecD.pop {C R CC : Addr} {H : Hp} {r : Addr} {M : List Addr} {c : Vbdeaa.Code} {p : Nat} {x : Ch} {q : List Ch} {dx lr lw lc a : Addr} {ts ws as : List Addr} (D : RecD C R CC H r M c ⟨p, [], x :: q⟩ dx lr lw lc ts ws (a :: as)) :
    Same (off M H) (off (r :: lw :: lc :: as) (L2.upd H lc (.lst (as.reverse.map V.ref)))) ∧ RecD C R CC (L2.upd H lc (.lst (as.reverse.map V.ref))) r (r :: lw :: lc :: as) c ⟨p, x.below, q⟩ dx lr lw lc ts ws as ∧ a ∉ (r :: lw :: lc :: as) ∧
    ∃ dxa cd fp, (L2.upd H lc (.lst (as.reverse.map V.ref))) a = some (.ins CC dxa (choF cd (x.start : Nat) (x.middle : Nat) (x.end_ : Nat) ((belowAll (x :: q)).length : Nat) fp)) ∧ NodeAt C (off M H) x.cond cd ∧ FirstAt C (off M H) x.first fp := by
  obtain ⟨m1, m2, m3, m4, n1, n2, n3, n4⟩ := D.rM
  have nd := D.nd
  rw [D.mem] at nd
  simp only [List.nodup_cons, List.mem_cons, not_or] at nd
  obtain ⟨⟨z1, z2, z3, z4⟩, ⟨z5, z6, z7⟩, ⟨z8, z9⟩, z10, z11⟩ := nd
  have out : Same (off M H) (off (r :: lw :: lc :: as) (L2.upd H lc (.lst (as.reverse.map V.ref)))) := fun b o e => by
    have bM := off_mem e
    refine off_get ?_ ?_
    · rw [upd_ne (show b ≠ lc from fun z => bM (z ▸ m3))]
      exact off_same _ _ _ _ e
    · rw [D.mem] at bM
      simp only [List.mem_cons, not_or] at bM ⊢
      exact ⟨bM.1, bM.2.1, bM.2.2.1, bM.2.2.2.2⟩
  have hcn : ChsAt C CC (off M H) H (x :: q) (a :: as) := D.cn
  cases hcn with
  | @cons _ _ _ dxa cd _ fp g1 g2 g3 g4 =>
    have ea : (L2.upd H lc (.lst (as.reverse.map V.ref))) a = H a := upd_ne (Ne.symm z8)
    refine ⟨out, ⟨rfl, ?_, by rw [upd_ne n2]; exact D.obj, out _ _ D.rows, D.told.same out, by rw [upd_ne n3]; exact D.wl, paired_same out D.wn, upd_same, g4.mono out fun b hb => upd_ne fun z => ?_⟩, ?_, dxa, cd, fp, by rw [ea]; exact g1, g2, g3⟩
    · simp only [List.nodup_cons, List.mem_cons, not_or]
      exact ⟨⟨z1, z2, z4⟩, ⟨z5, z7⟩, z9, z11⟩
    · subst z
      exact z9 hb
    · simp only [List.mem_cons, not_or]
      exact ⟨Ne.symm z3, Ne.symm z6, Ne.symm z8, z10⟩
theorem mk_nodeR {C : Addr} {M : List Addr} {H1 : Hp} {e : Exp} {D : V} {l : Addr} {as : List Addr} {E : XK} (hM : ∀ b ∈ M, ∃ o, H1 b = some o) (hD : DetOk (off M H1) e D) (hl : off M H1 l = some (.lst (as.map V.ref))) (hp : Paired (NodeAt C (off M H1)) (kids e) as) (hlen : as.length < 2000)
    {x dx : Addr} (hx : H1 x = none) (hdx : H1 dx = none) (hne : dx ≠ x) {R : Hp → Prop} (k : ∀ H2, Keep M H1 H2 → NodeAt C (off M H2) e x → R H2) :
    spNode C [.ref x, .int (formN e), D, .ref l] (L2.upd (L2.upd H1 dx (.own x)) x (.ins C dx [])) (fun v H2 => v = .non ∧ R H2) E := by
  have := mk_nodeM (C := C) (E := E) (Q := fun v H2 => v = .ref x → R H2) hM hD hl hp hlen (fun y H2 _ kp nd => fun z => by cases z; exact k H2 kp nd) x dx hx hdx hne
  obtain ⟨x', dx', l', e', D', as', h1, h2, h3, h4, h5, h6, h7⟩ := this
  exact ⟨x', dx', l', e', D', as', h1, h2, h3, h4, h5, h6, fun H' a b => ⟨(h7 H' a b).1, (h7 H' a b).2 rfl⟩⟩
theorem tIf_C {c : Bool} {a b v : V} {σ : L2.St} {H : Hp} {Q : VK} (h : (if c = true then a else b) = v) (q : Q v H) : if c = true then tC a σ H Q else tC b σ H Q := by
  cases c with
  | true => rw [if_pos rfl] at h; subst h; exact iteT q
  | false => rw [if_neg (by decide)] at h; subst h; exact iteF q
def spEndJ (C R CC Cn : Addr) : Sp := fun vs H Q E => ∃ (r : Addr) (M : List Addr) (c : Vbdeaa.Code) (s : MS), vs = [.ref r] ∧ Rec C R CC H r M c s ∧ MX.WF c s ∧ Small s ∧
  (∀ t, MX.nine c s = some t → ∀ M' H', Rec C R CC H' r M' c t → Same (off M H) (off M' H') → Q .non H') ∧ (MX.nine c s = none → RaiseC Cn (-3) (off M H) E)
def spEndI (C R CC Cn : Addr) : Sp := fun vs H Q E => ∃ (r : Addr) (M : List Addr) (c : Vbdeaa.Code) (s : MS), vs = [.ref r] ∧ Rec C R CC H r M c s ∧ MX.Chain c s.pos s.chs ∧ Small s ∧
  (∀ t, MX.settle s.pos s.cur s.chs = some t → ∀ M' H', Rec C R CC H' r M' c t → Same (off M H) (off M' H') → Q .non H') ∧ (MX.settle s.pos s.cur s.chs = none → RaiseC Cn (-3) (off M H) E)
theorem ChsAt.cons_inv {C CC : Addr} {G H : Hp} {chs : List Ch} {as : List Addr} (h : ChsAt C CC G H chs as) : (chs = [] ∧ as = []) ∨ ∃ x q a as', chs = x :: q ∧ as = a :: as' := by
  cases h with
  | nil => exact .inl ⟨rfl, rfl⟩
  | cons _ _ _ _ => exact .inr ⟨_, _, _, _, rfl, rfl⟩
section
variable {P : Program} {w : World} {K : PySem.W.Frag} {mg : Str → Option Value} {base : Heap}
theorem scEndJ : FnScope ["self", "second", "choice", "form"] ["self"] (defScope (sRec 9)) := ⟨rfl, rfl, rfl, by decide +kernel, rfl, by decide +kernel, by decide +kernel⟩
theorem ok_endJ {f fNi C R CC Cn fI : Addr} {fd dNi dI : FuncData} {fN fT fO fFo fPi fNa : Addr} {dN dT dO dFo dPi dNa : FuncData} (F : Fun K "end_joining" "Recovery.end_joining" (sRec 9) f fd) (G : RF P w K mg base C R CC Cn fI dI fN fT fO fFo fPi fNa dN dT dO dFo dPi dNa) (FNi : Fm K R "place_of_nine" "Recovery.place_of_nine" (sRec 10) fNi dNi ["self", "choice"]) : FnOk P w K mg base (CXr P w) 5 f fd ["self"] (spEndJ C R CC Cn) := by
  have T := G.T
  have X := G.X
  have NN := G.N
  have GN : FnOk P w K mg base (CXr P w) 1 fNi dNi _ _ := ok_nine FNi.F T
  refine okX F scEndJ (fun vs H Q E h => ?_) (fun cdv A outer s H vs Q E hr h => ?_)
  · obtain ⟨_, _, _, _, rfl, _⟩ := h
    rfl
  · obtain ⟨r, M, c, ms, rfl, hrec, wf, hsm, k, kr⟩ := h
    obtain ⟨dx, lr, lw, lc, ts, ws, cs, D⟩ := id hrec
    have hr3 : Room 3 _ := hr.mono (by omega)
    have hr2 : Room 2 _ := hr.mono (by omega)
    have hr1 : Room 1 _ := hr.mono (by omega)
    refine ⟨_, pss_cons (ps_if (pt_not (pt_truth (pe_fld (pv 0) rfl) (fun _ => rfl))) (pss_one (ps_raise X.made X.cls X.ok hr3 rfl X.m X.b rfl throws_of)) pss_nil)
      (pss_cons (ps_set (i := 1) scEndJ.nd rfl (Or.inl rfl) (pe_meth0 (pv 0) T.R.cl G.tom G.to hr G.tob .nil passes))
      (pss_cons (ps_set (i := 2) scEndJ.nd rfl (Or.inl rfl) (pe_bm0 PySem.F.plainAttrs_list PySem.F.slot_list_pop PySem.F.type_list_pop mt_pop (pe_fld (pv 0) rfl)))
      (pss_cons (ps_if (pt_cmpR op_ne (pe_fld (pv 0) rfl) (pe_meth (pv 0) T.R.cl FNi.me GN hr1 FNi.b .nil passes (pa_cons (pv 2) pa_nil)) (nomark _)) (pss_one (ps_raise X.made X.cls X.ok hr3 rfl X.m X.b rfl throws_of)) pss_nil)
      (pss_cons (ps_set (i := 3) scEndJ.nd rfl (Or.inl rfl) (pe_ifExp (pt_cmp (pc_isN (pe_fld (pv 2) rfl))) (pe_gi rfl T.Q.AND) (pe_gi rfl T.Q.OR)))
      (pss_cons (ps_expr (pe_bm PySem.F.plainAttrs_list PySem.F.slot_list_append PySem.F.type_list_append mt_append (pe_fld (pv 0) rfl) (pa_cons (pe_make NN.mk_ NN.ok hr2 rfl NN.m NN.b .nil passes (pa_cons (pv 3) (pa_cons pe_int (pa_cons (pe_lst (pa_cons (pe_fld (pv 2) rfl) (pa_cons (pv 1) pa_nil))) pa_nil)))) pa_nil)))
      (pss_one (ps_fld (pv 0) (pe_fld (pv 2) rfl) rfl))))))), ?_⟩
    refine ⟨_, rfl, r, R, dx, _, _, rfl, D.obj, T.R.cl, T.R.nC, rfl, _, .inl ⟨_, SqL.of D.cl, rfl⟩, ?_⟩
    rcases D.cn.cons_inv with ⟨hs, rfl⟩ | ⟨x, q, a, as, hs, rfl⟩
    · refine iteT ((kr ?_).mono (off_same M H)).go
      unfold MX.nine
      rw [hs]
      split <;> first | rfl | (rename_i h; cases h) | (rename_i h _; cases h)
    have hnone : (∀ e, ms.cur ≠ [e]) → MX.nine c ms = none := fun hno => by
      unfold MX.nine
      rw [hs]
      split
      · rename_i e1 x' r' hcur hcs
        exact absurd hcur (hno e1)
      · rfl
    have hcl := D.cl
    rw [rev_map_cons] at hcl ⊢
    rw [show (!(as.reverse.map V.ref ++ [V.ref a]).isEmpty) = true by simp]
    refine iteF ⟨_, rfl, r, dx, _, rfl, D.obj, rfl, r, M, c, ms, rfl, hrec, ?_, fun hno => kr (hnone hno)⟩
    rintro e he b H1 hnb ⟨dx1, lr1, lw1, lc1, ts1, ws1, cs1, D1⟩ sm
    obtain ⟨ew, el, ecs⟩ : lw1 = lw ∧ lc1 = lc ∧ cs1 = a :: as := by
      have e1 := D1.mem
      rw [D.mem] at e1
      injection e1 with _ e1
      injection e1 with e2 e1
      injection e1 with e3 e1
      exact ⟨e2.symm, e3.symm, e1.symm⟩
    subst ew el ecs
    have D1 : RecD C R CC H1 r M c ⟨ms.pos, [], x :: q⟩ dx1 lr1 lw1 lc1 ts1 ws1 (a :: as) := by
      have := D1
      rw [show ({ ms with cur := [] } : MS) = ⟨ms.pos, [], x :: q⟩ by rw [← hs]] at this
      exact this
    have hcl1 := D1.cl
    rw [rev_map_cons] at hcl1
    refine ⟨_, rfl, r, R, dx1, _, _, rfl, D1.obj, T.R.cl, T.R.nC, rfl, .inl ⟨rfl, _, SqL.of hcl1⟩, lc1, _, _, rfl, rfl, hcl1, pop_last, ?_⟩
    rw [List.dropLast_concat]
    obtain ⟨out, D2, aM, dxa, cd, fp, ha, hcd, hfp⟩ := D1.pop
    generalize hH2 : L2.upd H1 lc1 (.lst (as.reverse.map V.ref)) = H2 at *
    generalize hM2 : (r :: lw1 :: lc1 :: as) = M2 at *
    have chn := wf.chain
    rw [hs] at chn
    obtain ⟨c1, c2, c3, c4, c5, c6⟩ := chn
    have sm2 := sm.trans out
    have bad : MX.nine c ms = none → RaiseC Cn (-3) H2 E := fun h => (kr h).mono (sm2.trans (off_same M2 H2))
    refine ⟨_, rfl, r, R, dx1, _, _, rfl, D2.obj, T.R.cl, T.R.nA, rfl, _, rfl, r, dx1, _, rfl, D2.obj, rfl, _, rfl, r, dx1, lr1, lw1, lc1, a, dxa, cd, _, _, ts1, c, x, fp, _, rfl, D2.obj, off_same _ _ _ _ D2.rows, D2.told.same (off_same _ _), ha, hfp, c4, c6.le, rfl, _, rfl, ite2 (fun h1 => (bad ?_).go) fun h1 => ?_⟩
    · have hne : ¬ V.int (ms.pos : Nat) = V.int (nineI c x) := by simpa using h1
      unfold MX.nine
      rw [hs, he]
      simp only
      unfold nineI at hne
      cases hf : x.first with
      | none =>
        rw [hf] at hne
        simp only at hne ⊢
        rw [if_neg]
        rintro ⟨h2, h3⟩
        rw [h2, if_pos rfl] at hne
        exact hne (by congr 1; omega)
      | some f0 =>
        rw [hf] at hne
        simp only at hne ⊢
        rw [if_neg]
        rintro ⟨h2, h3⟩
        rw [h2, if_pos rfl] at hne
        exact hne (by congr 1; omega)
    have heq : (ms.pos : Int) = nineI c x := by
      have : V.int (ms.pos : Nat) = V.int (nineI c x) := by simpa using h1
      exact vint_inj this
    obtain ⟨nd, fo, hnine, hform, hkids, hdet⟩ : ∃ (nd : Exp) (fo : Int), MX.nine c ms = some ⟨x.end_, nd :: x.below, q⟩ ∧ formN nd = fo ∧ kids nd = [x.cond, e] ∧ (∀ H', DetOk H' nd (.int 0)) ∧ fo = (if fp = .non then 4 else 5) := by
      unfold nineI at heq
      unfold MX.nine
      rw [hs, he]
      simp only
      cases hf : x.first with
      | none =>
        rw [hf] at heq hfp
        obtain rfl : fp = .non := hfp
        simp only at heq ⊢
        cases hz : MX.isAnd c x with
        | false => rw [hz, if_neg (by decide)] at heq; omega
        | true =>
          rw [hz, if_pos rfl] at heq
          rw [if_pos ⟨rfl, by omega⟩]
          exact ⟨_, 4, rfl, rfl, rfl, fun _ => rfl, rfl⟩
      | some f0 =>
        rw [hf] at heq hfp
        obtain ⟨fa, rfl, _⟩ := hfp
        simp only at heq ⊢
        cases hz : MX.isOr c x with
        | false => rw [hz, if_neg (by decide)] at heq; omega
        | true =>
          rw [hz, if_pos rfl] at heq
          rw [if_pos ⟨rfl, by omega⟩]
          exact ⟨_, 5, rfl, rfl, rfl, fun _ => rfl, rfl⟩
    obtain ⟨hdet, hfo⟩ := hdet
    refine ⟨_, rfl, a, CC, dxa, _, _, rfl, ha, T.H.cl, T.H.nF, rfl, _, rfl, tIf_C (v := .int (formN nd)) ?_ ?_⟩
    · rw [hform, hfo]
      by_cases z : fp = .non
      · rw [if_pos z, decide_eq_true z]; rfl
      · rw [if_neg z, decide_eq_false z]; rfl
    refine ⟨_, rfl, r, R, dx1, _, _, rfl, D2.obj, T.R.cl, T.R.nW, rfl, .inl ⟨rfl, _, SqL.of D2.wl⟩, _, rfl, _, rfl, a, CC, dxa, _, _, rfl, ha, T.H.cl, T.H.nC, rfl, _, rfl, by show 2 ≤ sizeLine; decide, fun L hL => ?_⟩
    have s3 := Same.upd (o := .lst [V.ref cd, V.ref b]) hL
    have K3 := Keep.of_same D2.there s3
    have D3 := D2.keep K3
    have LM : L ∉ M2 := fun z => by
      obtain ⟨o, ho⟩ := D2.there L z
      rw [hL] at ho
      cases ho
    have o3 := out.trans K3.out
    refine fun y dy hy hdy hney => mk_nodeR (e := nd) (as := [cd, b]) D3.there (hdet _) (off_get upd_same LM) (by rw [hkids]; exact .cons (hcd.same o3) (.cons (hnb.same o3) .nil)) (by show 2 < 2000; decide) hy hdy hney fun H4 K4 hny => ?_
    have D4 := D3.keep K4
    obtain ⟨m1, m2, m3, m4, n1, n2, n3, n4⟩ := D4.rM
    refine ⟨lw1, _, _, rfl, rfl, D4.wl, ?_, ?_⟩
    · rw [List.length_map, List.length_reverse, ← Paired.length D4.wn]
      have h0 := hsm.wait
      unfold waitOf at h0 ⊢
      rw [hs, he] at h0
      simp only [belowAll, List.length_append, List.length_cons] at h0 ⊢
      exact Nat.lt_of_le_of_lt (by omega : _ ≤ 1000) (by decide)
    have ho : off M2 (L2.upd H4 lw1 (.lst (ws1.reverse.map V.ref ++ [V.ref y]))) = off M2 H4 := off_upd m2
    have D5 : RecD C R CC (L2.upd H4 lw1 (.lst (ws1.reverse.map V.ref ++ [V.ref y]))) r M2 c ⟨ms.pos, nd :: x.below, q⟩ dx1 lr1 lw1 lc1 ts1 (y :: ws1) as :=
      D4.setW (s' := ⟨ms.pos, nd :: x.below, q⟩) (fun z _ hz => upd_ne hz) (by rw [ho]; exact Same.refl _) rfl rfl (by rw [upd_same, rev_map_cons]) (by rw [ho]; exact .cons hny D4.wn)
    have ha5 : (L2.upd H4 lw1 (.lst (ws1.reverse.map V.ref ++ [V.ref y]))) a = some (.ins CC dxa (choF cd (x.start : Nat) (x.middle : Nat) (x.end_ : Nat) ((belowAll (x :: q)).length : Nat) fp)) := by
      rw [upd_ne (show a ≠ lw1 from fun z => aM (z ▸ m2))]
      exact off_same _ _ _ _ (K4.out _ _ (K3.out _ _ (off_get ha aM)))
    refine ⟨_, rfl, a, CC, dxa, _, _, rfl, ha5, T.H.cl, T.H.nE, rfl, _, rfl, r, R, dx1, _, rfl, D5.obj, T.R.cl, T.R.nA, by show 4 < 1000; decide, ?_⟩
    refine k _ hnine M2 _ ⟨dx1, lr1, lw1, lc1, ts1, y :: ws1, as, D5.setP x.end_⟩ ?_
    show Same (off M H) (off M2 (L2.upd _ r _))
    rw [off_upd m1, ho]
    exact sm2.trans (K3.out.trans K4.out)
end
end SB
end
section
set_option Elab.async false
set_option maxRecDepth 100000
set_option maxHeartbeats 4000000
set_option linter.all false
namespace SB
open PySem PySem.Spec PyProof.Rows L2 XL
open Vbdeaa (Text Exp Exps Un Bin Ins)
open MX (insOk hd Cut MS Ch belowAll)
section
variable {P : Program} {w : World} {K : PySem.W.Frag} {mg : Str → Option Value} {base : Heap}
theorem scEndI : FnScope ["self", "second", "choice"] ["self"] (defScope (sRec 11)) := ⟨rfl, rfl, rfl, by decide +kernel, rfl, by decide +kernel, by decide +kernel⟩
theorem ok_endI {f C R CC Cn fI : Addr} {fd dI : FuncData} {fN fT fO fFo fPi fNa : Addr} {dN dT dO dFo dPi dNa : FuncData} (F : Fun K "end_ifs" "Recovery.end_ifs" (sRec 11) f fd) (G : RF P w K mg base C R CC Cn fI dI fN fT fO fFo fPi fNa dN dT dO dFo dPi dNa) : FnOk P w K mg base (CXr P w) 5 f fd ["self"] (spEndI C R CC Cn) := by
  have T := G.T
  have X := G.X
  have NN := G.N
  refine okX F scEndI (fun vs H Q E h => ?_) (fun cdv A outer s H vs Q E hr h => ?_)
  · obtain ⟨_, _, _, _, rfl, _⟩ := h
    rfl
  · obtain ⟨r, M, c, ms, rfl, hrec, chn, hsm, k, kr⟩ := h
    have hr2 : Room 2 _ := hr.mono (by omega)
    refine ⟨_, pss_one (ps_while pown (PW.pt (pw_and (pt_truth (pe_fld (pv 0) rfl) (fun _ => rfl)) (pw_and1 (pt_cmpR op_eq (pe_fld (pv 0) rfl) (pe_fld (pe_ix ix_list (pe_fld (pv 0) rfl) (pe_un un_neg pe_int) (fun _ _ => rfl)) rfl) (nomark _)))))
      (pss_cons (ps_set (i := 1) scEndI.nd rfl (Or.inl rfl) (pe_meth0 (pv 0) T.R.cl G.tom G.to hr G.tob .nil passes))
      (pss_cons (ps_set (i := 2) scEndI.nd rfl (Or.inl rfl) (pe_bm0 PySem.F.plainAttrs_list PySem.F.slot_list_pop PySem.F.type_list_pop mt_pop (pe_fld (pv 0) rfl)))
      (pss_one (ps_expr (pe_bm PySem.F.plainAttrs_list PySem.F.slot_list_append PySem.F.type_list_append mt_append (pe_fld (pv 0) rfl) (pa_cons (pe_make NN.mk_ NN.ok hr2 rfl NN.m NN.b .nil passes (pa_cons (pe_gi rfl T.Q.IF) (pa_cons pe_int (pa_cons (pe_lst (pa_cons (pe_fld (pv 2) rfl) (pa_cons (pe_fld (pv 2) rfl) (pa_cons (pv 1) pa_nil)))) pa_nil)))) pa_nil))))))), ?_⟩
    refine ⟨fun m σ H' => ∃ (v1 v2 : Option V) (M' : List Addr) (s' : MS), σ = [some (.ref r), v1, v2] ∧ m = s'.chs.length ∧ Rec C R CC H' r M' c s' ∧ s'.pos = ms.pos ∧ MX.Chain c s'.pos s'.chs ∧ Small s' ∧ MX.settle ms.pos ms.cur ms.chs = MX.settle s'.pos s'.cur s'.chs ∧ Same (off M H) (off M' H'),
      ⟨_, none, none, M, ms, rfl, rfl, hrec, rfl, chn, hsm, rfl, Same.refl _⟩, ?_⟩
    rintro m σ H' ⟨v1, v2, M', s', rfl, rfl, hrec', hpos, chn', hsm', hset, sm⟩
    obtain ⟨dx, lr, lw, lc, ts, ws, cs, D⟩ := id hrec'
    refine ⟨_, rfl, r, R, dx, _, _, rfl, D.obj, T.R.cl, T.R.nC, rfl, _, .inl ⟨_, SqL.of D.cl, rfl⟩, ?_⟩
    rcases D.cn.cons_inv with ⟨hs, rfl⟩ | ⟨x, q, a, as, hs, rfl⟩
    · refine iteF (iteF ?_)
      rw [hs] at hset
      have hset : MX.settle ms.pos ms.cur ms.chs = some ⟨s'.pos, s'.cur, []⟩ := hset
      have := k _ hset M' H' (by rw [← hs]; exact hrec') sm
      exact this
    have hcl := D.cl
    rw [rev_map_cons] at hcl ⊢
    rw [show (!(as.reverse.map V.ref ++ [V.ref a]).isEmpty) = true by simp]
    have hcn := D.cn
    rw [hs] at hcn
    cases hcn with
    | @cons _ _ _ dxa cd _ fp g1 g2 g3 g4 =>
      refine iteT ⟨_, rfl, r, R, dx, _, _, rfl, D.obj, T.R.cl, T.R.nA, rfl, _, rfl, r, R, dx, _, _, rfl, D.obj, T.R.cl, T.R.nC, rfl, _, rfl, lc, _, _, _, rfl, rfl, SqL.of hcl, atI_last, a, CC, dxa, _, _, rfl, g1, T.H.cl, T.H.nE, rfl, rfl, _, rfl, ite2 (fun h1 => ?_) fun h1 => ?_⟩
      · have h1 : s'.pos = x.end_ := by
          have := vint_inj (of_decide_eq_true h1)
          omega
        have ch := chn'
        rw [hs] at ch
        obtain ⟨c1, c2, c3, c4, c5, c6⟩ := ch
        obtain ⟨f0, hf⟩ : ∃ f0, x.first = some f0 := by
          cases hf : x.first with
          | none => rw [hf] at c2; simp only at c2; omega
          | some f0 => exact ⟨f0, rfl⟩
        have hstep : ∀ e, s'.cur = [e] → MX.settle s'.pos s'.cur s'.chs = MX.settle s'.pos (.cond x.cond f0 e :: x.below) q := fun e he => by
          rw [hs, he]
          conv => lhs; unfold MX.settle
          rw [if_pos h1, hf]
        have hnone : (∀ e, s'.cur ≠ [e]) → MX.settle s'.pos s'.cur s'.chs = none := fun hno => by
          rw [hs]
          unfold MX.settle
          rw [if_pos h1]
          split
          · rename_i e1 f1 hcur _
            exact absurd hcur (hno e1)
          · rfl
        refine ⟨fun σ' H'' => ∃ m', m' < s'.chs.length ∧ ∃ (v1 v2 : Option V) (M' : List Addr) (s' : MS), σ' = [some (.ref r), v1, v2] ∧ m' = s'.chs.length ∧ Rec C R CC H'' r M' c s' ∧ s'.pos = ms.pos ∧ MX.Chain c s'.pos s'.chs ∧ Small s' ∧ MX.settle ms.pos ms.cur ms.chs = MX.settle s'.pos s'.cur s'.chs ∧ Same (off M H) (off M' H''), fun σ' H'' h => h, ?_⟩
        refine ⟨_, rfl, r, dx, _, rfl, D.obj, rfl, r, M', c, s', rfl, hrec', ?_, fun hno => (kr (by rw [hset]; exact hnone hno)).mono sm⟩
        rintro e he b H1 hnb ⟨dx1, lr1, lw1, lc1, ts1, ws1, cs1, D1⟩ sm1
        obtain ⟨ew, el, ecs⟩ : lw1 = lw ∧ lc1 = lc ∧ cs1 = a :: as := by
          have e1 := D1.mem
          rw [D.mem] at e1
          injection e1 with _ e1
          injection e1 with e2 e1
          injection e1 with e3 e1
          exact ⟨e2.symm, e3.symm, e1.symm⟩
        subst ew el ecs
        have D1 : RecD C R CC H1 r M' c ⟨s'.pos, [], x :: q⟩ dx1 lr1 lw1 lc1 ts1 ws1 (a :: as) := by
          have := D1
          rw [show ({ s' with cur := [] } : MS) = ⟨s'.pos, [], x :: q⟩ by rw [← hs]] at this
          exact this
        have hcl1 := D1.cl
        rw [rev_map_cons] at hcl1
        refine ⟨_, rfl, r, R, dx1, _, _, rfl, D1.obj, T.R.cl, T.R.nC, rfl, .inl ⟨rfl, _, SqL.of hcl1⟩, lc1, _, _, rfl, rfl, hcl1, pop_last, ?_⟩
        rw [List.dropLast_concat]
        obtain ⟨out, D2, aM, dxa2, cd2, fp2, ha, hcd, hfp⟩ := D1.pop
        rw [hf] at hfp
        obtain ⟨fa, rfl, hfa⟩ := hfp
        generalize hH2 : L2.upd H1 lc1 (.lst (as.reverse.map V.ref)) = H2 at *
        generalize hM2 : (r :: lw1 :: lc1 :: as) = M2 at *
        refine ⟨_, rfl, r, R, dx1, _, _, rfl, D2.obj, T.R.cl, T.R.nW, rfl, .inl ⟨rfl, _, SqL.of D2.wl⟩, _, rfl, a, CC, dxa2, _, _, rfl, ha, T.H.cl, T.H.nC, rfl, _, rfl, a, CC, dxa2, _, _, rfl, ha, T.H.cl, T.H.nF, rfl, _, rfl, by show 3 ≤ sizeLine; decide, fun L hL => ?_⟩
        have s3 := Same.upd (o := .lst [V.ref cd2, V.ref fa, V.ref b]) hL
        have K3 := Keep.of_same D2.there s3
        have D3 := D2.keep K3
        have LM : L ∉ M2 := fun z => by
          obtain ⟨o, ho⟩ := D2.there L z
          rw [hL] at ho
          cases ho
        have o3 := out.trans K3.out
        refine fun y dy hy hdy hney => mk_nodeR (e := .cond x.cond f0 e) (as := [cd2, fa, b]) D3.there rfl (off_get upd_same LM) (.cons (hcd.same o3) (.cons (hfa.same o3) (.cons (hnb.same o3) .nil))) (by show 3 < 2000; decide) hy hdy hney fun H4 K4 hny => ?_
        have D4 := D3.keep K4
        obtain ⟨m1, m2, m3, m4, n1, n2, n3, n4⟩ := D4.rM
        refine ⟨lw1, _, _, rfl, rfl, D4.wl, ?_, ?_⟩
        · rw [List.length_map, List.length_reverse, ← Paired.length D4.wn]
          have h0 := hsm'.wait
          unfold waitOf at h0 ⊢
          rw [hs, he] at h0
          simp only [belowAll, List.length_append, List.length_cons] at h0 ⊢
          exact Nat.lt_of_le_of_lt (by omega : _ ≤ 1000) (by decide)
        have ho : off M2 (L2.upd H4 lw1 (.lst (ws1.reverse.map V.ref ++ [V.ref y]))) = off M2 H4 := off_upd m2
        have D5 : RecD C R CC (L2.upd H4 lw1 (.lst (ws1.reverse.map V.ref ++ [V.ref y]))) r M2 c ⟨s'.pos, .cond x.cond f0 e :: x.below, q⟩ dx1 lr1 lw1 lc1 ts1 (y :: ws1) as :=
          D4.setW (s' := ⟨s'.pos, .cond x.cond f0 e :: x.below, q⟩) (fun z _ hz => upd_ne hz) (by rw [ho]; exact Same.refl _) rfl rfl (by rw [upd_same, rev_map_cons]) (by rw [ho]; exact .cons hny D4.wn)
        refine ⟨q.length, by rw [hs, List.length_cons]; omega, _, _, M2, ⟨s'.pos, .cond x.cond f0 e :: x.below, q⟩, rfl, rfl, ⟨dx1, lr1, lw1, lc1, ts1, y :: ws1, as, D5⟩, hpos, by rw [h1]; exact c6, ?_, by rw [hset]; exact hstep e he, ?_⟩
        · unfold Small at hsm' ⊢
          rw [hs, he] at hsm'
          simp only [MX.sumS, MX.chsS, MX.chS, hf, List.length_cons, Vbdeam.size] at hsm' ⊢
          omega
        · rw [ho]
          exact (sm.trans sm1).trans (o3.trans K4.out)
      · have hne : s'.pos ≠ x.end_ := fun z => h1 (decide_eq_true (by rw [z]))
        have hset2 : MX.settle ms.pos ms.cur ms.chs = some s' := by
          rw [hset, hs]
          conv => lhs; unfold MX.settle
          rw [if_neg hne, ← hs]
        exact k _ hset2 M' H' hrec' sm
end
end SB
end
section
set_option Elab.async false
set_option maxRecDepth 100000
set_option maxHeartbeats 4000000
set_option linter.all false
namespace SB
open PySem PySem.Spec PyProof.Rows L2 XL
open Vbdeaa (Text Exp Exps Un Bin Ins)
open MX (insOk hd Cut MS Ch belowAll)
theorem cut_len {n : Nat} : ∀ (m : Nat) {l : List Int} {c : Vbdeaa.Code}, l.length ≤ m → Cut n l c → c.length ≤ l.length
  | 0, l, c, hm, h => by
    have : l = [] := List.length_eq_zero_iff.mp (by omega)
    subst this
    have : c = [] := by
      have := h.1
      rw [Vbdeaa.codeOf] at this
      cases this
      rfl
    subst this
    exact Nat.le_refl _
  | m + 1, l, c, hm, h => by
    by_cases hl : l = []
    · subst hl
      exact cut_len m (Nat.zero_le _) h
    · obtain ⟨i, r, c', h1, _, h3, rfl⟩ := MX.cut_inv hl h
      have h4 := MX.hd_told h1
      have h5 := MX.told_pos i
      have h6 : l.length = i.told.length + r.length := by rw [h4, List.length_append]
      have := cut_len m (l := r) (by omega) h3
      rw [List.length_cons]
      omega
def spStep (C R CC Cn : Addr) : Sp := fun vs H Q E => ∃ (r : Addr) (M : List Addr) (c : Vbdeaa.Code) (s : MS) (n : Nat), vs = [.ref r] ∧ Rec C R CC H r M c s ∧ MX.WF c s ∧ MX.Siz s ∧ c.length ≤ 900 ∧ s.pos < c.length ∧ n ≤ 8 ∧ (∀ i ∈ c, insOk n i = true) ∧
  (∀ t, MX.step n c s = some t → ∀ M' H', Rec C R CC H' r M' c t → Same (off M H) (off M' H') → Q .non H') ∧ (MX.step n c s = none → RaiseC Cn (-3) (off M H) E)
structure SF (P : Program) (w : World) (K : PySem.W.Frag) (mg : Str → Option Value) (base : Heap) (C R CC Cn : Addr) (f1 f2 f3 f4 f5 : Addr) (d1 d2 d3 d4 d5 : FuncData) : Prop where
  T : RT K mg C R CC
  bg : FnOk P w K mg base (CXr P w) 5 f1 d1 ["self", "length"] (spBegin C R CC Cn)
  bgm : Meth K R "begin_choice" f1
  bgb : Binds K d1 ["self", "length"] []
  go : FnOk P w K mg base (CXr P w) 5 f2 d2 ["self"] (spGoOn C R CC Cn)
  gom : Meth K R "go_on_choice" f2
  gob : Binds K d2 ["self"] []
  ej : FnOk P w K mg base (CXr P w) 5 f3 d3 ["self"] (spEndJ C R CC Cn)
  ejm : Meth K R "end_joining" f3
  ejb : Binds K d3 ["self"] []
  tp : FnOk P w K mg base (CXr P w) 6 f4 d4 ["self", "row"] (spTakePl C R CC Cn)
  tpm : Meth K R "take_plain" f4
  tpb : Binds K d4 ["self", "row"] []
  ei : FnOk P w K mg base (CXr P w) 5 f5 d5 ["self"] (spEndI C R CC Cn)
  eim : Meth K R "end_ifs" f5
  eib : Binds K d5 ["self"] []
section
variable {P : Program} {w : World} {K : PySem.W.Frag} {mg : Str → Option Value} {base : Heap}
theorem scStep : FnScope ["self", "row"] ["self"] (defScope (sRec 1)) := ⟨rfl, rfl, rfl, by decide +kernel, rfl, by decide +kernel, by decide +kernel⟩
theorem ok_step {f C R CC Cn f1 f2 f3 f4 f5 : Addr} {fd d1 d2 d3 d4 d5 : FuncData} (F : Fun K "step" "Recovery.step" (sRec 1) f fd) (G : SF P w K mg base C R CC Cn f1 f2 f3 f4 f5 d1 d2 d3 d4 d5) : FnOk P w K mg base (CXr P w) 7 f fd ["self"] (spStep C R CC Cn) := by
  have T := G.T
  refine okX F scStep (fun vs H Q E h => ?_) (fun cdv A outer s H vs Q E hr h => ?_)
  · obtain ⟨_, _, _, _, _, rfl, _⟩ := h
    rfl
  · obtain ⟨r, M, c, ms, n, rfl, hrec, wf, hsz, hcl, hpos, hn8, hins, k, kr⟩ := h
    obtain ⟨dx, lr, lw, lc, ts, ws, cs, D⟩ := id hrec
    have hr5 : Room 5 _ := hr.mono (by omega)
    refine ⟨_, pss_cons (ps_set (i := 1) scStep.nd rfl (Or.inl rfl) (pe_ix ix_list (pe_fld (pv 0) rfl) (pe_fld (pv 0) rfl) (fun _ _ => rfl)))
      (pss_cons (ps_if (pt_cmpR op_eq (pe_ix ix_tup (pv 1) pe_int (fun _ _ => rfl)) pe_int (nomark _)) (pss_one (ps_expr (pe_meth (pv 0) T.R.cl G.bgm G.bg hr5 G.bgb .nil passes (pa_cons (pe_ix ix_tup (pv 1) pe_int (fun _ _ => rfl)) pa_nil))))
        (pss_one (ps_if (pt_cmpR op_eq (pe_ix ix_tup (pv 1) pe_int (fun _ _ => rfl)) pe_int (nomark _)) (pss_one (ps_expr (pe_meth0 (pv 0) T.R.cl G.gom G.go hr5 G.gob .nil passes)))
          (pss_one (ps_if (pt_cmpR op_eq (pe_ix ix_tup (pv 1) pe_int (fun _ _ => rfl)) pe_int (nomark _)) (pss_one (ps_expr (pe_meth0 (pv 0) T.R.cl G.ejm G.ej hr5 G.ejb .nil passes)))
            (pss_one (ps_expr (pe_meth (pv 0) T.R.cl G.tpm G.tp hr G.tpb .nil passes (pa_cons (pv 1) pa_nil)))))))))
      (pss_one (ps_expr (pe_meth0 (pv 0) T.R.cl G.eim G.ei hr5 G.eib .nil passes)))), ?_⟩
    obtain ⟨i, hi⟩ : ∃ i, c[ms.pos]? = some i := ⟨_, List.getElem?_eq_getElem hpos⟩
    obtain ⟨t, hat, ht⟩ := D.row hi
    have ht0 := off_same _ _ _ _ ht
    have hok := hins i (List.mem_of_getElem? hi)
    have hsm : Small ms := by
      unfold Small
      have : MX.sumS ms.cur + MX.chsS ms.chs + ms.chs.length ≤ ms.pos := hsz
      omega
    refine ⟨_, rfl, r, R, dx, _, _, rfl, D.obj, T.R.cl, T.R.nR, rfl, _, rfl, r, R, dx, _, _, rfl, D.obj, T.R.cl, T.R.nA, rfl, lr, _, _, _, rfl, rfl, SqL.of (off_same _ _ _ _ D.rows), hat, ?_⟩
    have stepEq : MX.step n c ms = (MX.core n c i ms).bind fun u => MX.settle u.pos u.cur u.chs := by
      unfold MX.step
      rw [hi]
    have fin : ∀ (u : MS) (M1 : List Addr) (H1 : Hp), MX.core n c i ms = some u → Rec C R CC H1 r M1 c u → Same (off M H) (off M1 H1) → spEndI C R CC Cn [.ref r] H1 (fun _ H2 => Q .non H2) E := fun u M1 H1 hu hrec1 sm1 => by
      have hch := MX.core_chain wf hi hu
      have hz := MX.core_siz wf hsz hu
      have hle := hch.le
      refine ⟨r, M1, c, u, rfl, hrec1, hch, by unfold Small; omega, fun t2 ht2 M2 H2 hrec2 sm2 => ?_, fun hno => (kr ?_).mono sm1⟩
      · exact k t2 (by rw [stepEq, hu]; exact ht2) M2 H2 hrec2 (sm1.trans sm2)
      · rw [stepEq, hu]
        exact hno
    have none_ : MX.core n c i ms = none → RaiseC Cn (-3) (off M H) E := fun h => kr (by rw [stepEq, h]; rfl)
    refine ⟨_, rfl, t, _, _, _, rfl, rfl, SqT.of ht0, told0 i, rfl, _, rfl, ?_⟩
    have recObj : ∀ {M1 : List Addr} {H1 : Hp} {u : MS}, Rec C R CC H1 r M1 c u → ∃ dx1 fs1, H1 r = some (.ins R dx1 fs1) ∧ fs1.lookup ("end_ifs" : Str) = none := fun ⟨dx1, lr1, lw1, lc1, ts1, ws1, cs1, D1⟩ => ⟨dx1, _, D1.obj, rfl⟩
    cases i with
    | zero m =>
      refine iteT ⟨_, rfl, r, dx, _, rfl, D.obj, rfl, _, rfl, t, _, _, _, rfl, rfl, SqT.of ht0, at_of (j := 1) rfl rfl, r, M, c, ms, m, rfl, hrec, wf, hsm, fun u hu M1 H1 hrec1 sm1 => ?_, fun h => none_ h⟩
      obtain ⟨dx1, fs1, ho1, hl1⟩ := recObj hrec1
      exact ⟨_, rfl, r, dx1, fs1, rfl, ho1, hl1, fin u M1 H1 hu hrec1 sm1⟩
    | jump m =>
      refine iteF ⟨_, rfl, t, _, _, _, rfl, rfl, SqT.of ht0, told0 _, rfl, _, rfl, iteT ⟨_, rfl, r, dx, _, rfl, D.obj, rfl, r, M, c, ms, rfl, hrec, wf, fun u hu H1 hrec1 sm1 => ?_, fun h => none_ h⟩⟩
      obtain ⟨dx1, fs1, ho1, hl1⟩ := recObj hrec1
      exact ⟨_, rfl, r, dx1, fs1, rfl, ho1, hl1, fin u M H1 hu hrec1 sm1⟩
    | truth =>
      refine iteF ⟨_, rfl, t, _, _, _, rfl, rfl, SqT.of ht0, told0 _, rfl, _, rfl, iteF ⟨_, rfl, t, _, _, _, rfl, rfl, SqT.of ht0, told0 _, rfl, _, rfl, iteT ⟨_, rfl, r, dx, _, rfl, D.obj, rfl, r, M, c, ms, rfl, hrec, wf, hsm, fun u hu M1 H1 hrec1 sm1 => ?_, fun h => none_ h⟩⟩⟩
      obtain ⟨dx1, fs1, ho1, hl1⟩ := recObj hrec1
      exact ⟨_, rfl, r, dx1, fs1, rfl, ho1, hl1, fin u M1 H1 hu hrec1 sm1⟩
    | _ =>
      refine iteF ⟨_, rfl, t, _, _, _, rfl, rfl, SqT.of ht0, told0 _, rfl, _, rfl, iteF ⟨_, rfl, t, _, _, _, rfl, rfl, SqT.of ht0, told0 _, rfl, _, rfl, iteF ⟨_, rfl, r, dx, _, rfl, D.obj, rfl, _, rfl, r, t, M, c, ms, n, _, rfl, hrec, ht, hok, hn8, trivial, hsm, fun st hst H1 hrec1 sm1 => ?_, fun h => none_ (by unfold MX.core; simp only; rw [h]; rfl)⟩⟩⟩
      obtain ⟨dx1, fs1, ho1, hl1⟩ := recObj hrec1
      exact ⟨_, rfl, r, dx1, fs1, rfl, ho1, hl1, fin ⟨ms.pos + 1, st, ms.chs⟩ M H1 (by unfold MX.core; simp only; rw [hst]; rfl) hrec1 sm1⟩
end
end SB
end
section
set_option Elab.async false
set_option maxRecDepth 100000
set_option maxHeartbeats 4000000
set_option linter.all false
namespace SB
open PySem PySem.Spec PyProof.Rows L2 XL
open Vbdeaa (Text Exp Exps Un Bin Ins)
open MX (insOk hd Cut MS Ch belowAll)
def spSimple (K : PySem.W.Frag) (C Cn : Addr) : Sp := fun vs H Q E => ∃ (l : Addr) (n : Nat) (code : List Int), vs = [.ref l, .int n] ∧ SqL K H l (vI code) ∧ code.length ≤ 500 ∧ n ≤ 8 ∧
  (∀ e, Vbdeam.expOf n code = some e → ∀ a H', Same H H' → NodeAt C H' e a → Q (.ref a) H') ∧ (Vbdeam.expOf n code = none → RaiseC Cn (-3) H E)
abbrev sSimple : Stmt := top 66
structure ZF (P : Program) (w : World) (K : PySem.W.Frag) (mg : Str → Option Value) (base : Heap) (C R CC Cn : Addr) (f1 f2 f3 f4 : Addr) (d1 d2 d3 d4 : FuncData) : Prop where
  T : RT K mg C R CC
  inf : Fn K mg "instructions_in" sIns f1 d1 ["code", "n"]
  ino : FnOk P w K mg base (CXr P w) 4 f1 d1 ["code", "n"] (spIns K Cn)
  rmk : Mk K R f2
  ro : FnOk P w K mg base (CXr P w) 1 f2 d2 ["self", "rows"] (spRecI R)
  rb : Binds K d2 ["self", "rows"] []
  rm : mg "Recovery" = some (.ref R)
  st : FnOk P w K mg base (CXr P w) 7 f3 d3 ["self"] (spStep C R CC Cn)
  stm : Meth K R "step" f3
  stb : Binds K d3 ["self"] []
  to : FnOk P w K mg base (CXr P w) 4 f4 d4 ["self"] (spTakeOnly C R CC Cn)
  tom : Meth K R "take_only" f4
  tob : Binds K d4 ["self"] []
section
variable {P : Program} {w : World} {K : PySem.W.Frag} {mg : Str → Option Value} {base : Heap}
theorem scSimple : FnScope ["code", "n", "recovery"] ["code", "n"] (defScope sSimple) := ⟨rfl, rfl, rfl, by decide +kernel, rfl, by decide +kernel, by decide +kernel⟩
theorem ok_simple {f C R CC Cn f1 f2 f3 f4 : Addr} {fd d1 d2 d3 d4 : FuncData} (F : Fn K mg "simple_expression_of" sSimple f fd ["code", "n"]) (G : ZF P w K mg base C R CC Cn f1 f2 f3 f4 d1 d2 d3 d4) : FnOk P w K mg base (CXr P w) 8 f fd ["code", "n"] (spSimple K C Cn) := by
  have T := G.T
  refine okX F.F scSimple (fun vs H Q E h => ?_) (fun cdv A outer s H vs Q E hr h => ?_)
  · obtain ⟨_, _, _, rfl, _⟩ := h
    rfl
  · obtain ⟨l, n, code, rfl, hl, hlen, hn8, k, kr⟩ := h
    have hr4 : Room 4 _ := hr.mono (by omega)
    have hr2 : Room 2 _ := hr.mono (by omega)
    refine ⟨_, pss_cons (ps_set (i := 2) scSimple.nd rfl (Or.inl rfl) (pe_make G.rmk G.ro hr2 rfl G.rm G.rb .nil passes (pa_cons (pe_call G.ino hr4 rfl G.inf.m G.inf.F.kp G.inf.b .nil passes (pa_cons (pv 0) (pa_cons (pv 1) pa_nil))) pa_nil)))
      (pss_cons (ps_while pown (pt_cmpR op_lt (pe_fld (pv 2) rfl) (pe_callB call_len_seq (by rfl) T.P.len (by decide +kernel) (pa_cons (pe_fld (pv 2) rfl) pa_nil)) (nomark _)) (pss_one (ps_expr (pe_meth0 (pv 2) T.R.cl G.stm G.st hr G.stb .nil passes))))
      (pss_one (ps_ret (pe_meth0 (pv 2) T.R.cl G.tom G.to hr4 G.tob .nil passes)))), ?_⟩
    refine ⟨_, rfl, _, rfl, l, n, code, rfl, hl, by omega, fun c hc R0 ts H1 hR0 s1 hR1 hts hRts => ?_, fun hno => kr (MX.expOf_none hno)⟩
    have hcl : c.length ≤ 500 := Nat.le_trans (cut_len _ (Nat.le_refl _) hc) hlen
    have hexp := MX.expOf_cut hc
    intro x dxx hx hdx hne
    refine ⟨x, dxx, R0, rfl, upd_same, fun H2 lw lc sx hlw hlc hwc hw2 hc2 hx2 => ⟨rfl, ?_⟩⟩
    have nwx : lw ≠ x := fun z => by rw [z, upd_same] at hlw; cases hlw
    have ncx : lc ≠ x := fun z => by rw [z, upd_same] at hlc; cases hlc
    have ndw : lw ≠ dxx := fun z => by rw [upd_ne nwx, z, upd_same] at hlw; cases hlw
    have ndc : lc ≠ dxx := fun z => by rw [upd_ne ncx, z, upd_same] at hlc; cases hlc
    rw [upd_ne nwx, upd_ne ndw] at hlw
    rw [upd_ne ncx, upd_ne ndc] at hlc
    have out : Same H1 (off [x, lw, lc] H2) := fun b o q => by
      have bx := ne_of_none q hx
      refine off_get (sx b o (by rw [upd_ne bx, upd_ne (ne_of_none q hdx)]; exact q) bx) ?_
      simp only [List.mem_cons, List.not_mem_nil, or_false, not_or]
      exact ⟨bx, ne_of_none q hlw, ne_of_none q hlc⟩
    have D0 : RecD C R CC H2 x [x, lw, lc] c ⟨0, [], []⟩ dxx R0 lw lc ts [] [] :=
      ⟨rfl, by simp only [List.nodup_cons, List.mem_cons, List.not_mem_nil, or_false, not_or, List.nodup_nil, not_false_eq_true, and_true]; exact ⟨⟨Ne.symm nwx, Ne.symm ncx⟩, hwc⟩, hx2, out _ _ hR1, hts.same out, hw2, .nil, hc2, .nil⟩
    refine ⟨fun m σ H' => ∃ (M' : List Addr) (s' : MS), σ = [some (.ref l), some (.int n), some (.ref x)] ∧ m = c.length - s'.pos ∧ Rec C R CC H' x M' c s' ∧ MX.WF c s' ∧ MX.Siz s' ∧ MX.mrun n c (c.length + 1) s' = Vbdeam.tree n c ∧ Same H (off M' H'),
      ⟨_, [x, lw, lc], ⟨0, [], []⟩, rfl, rfl, ⟨_, _, _, _, _, _, _, D0⟩, MX.wf_init c, MX.siz_init, MX.mrun_tree, s1.trans out⟩, ?_⟩
    rintro m σ H' ⟨M', s', rfl, rfl, hrec, wf, hsz, hrun, sm⟩
    obtain ⟨dx, lr, lw', lc', ts', ws', cs', D⟩ := id hrec
    refine ⟨_, rfl, x, R, dx, _, _, rfl, D.obj, T.R.cl, T.R.nA, rfl, _, rfl, x, R, dx, _, _, rfl, D.obj, T.R.cl, T.R.nR, rfl, lr, _, rfl, .inl (SqL.of (off_same _ _ _ _ D.rows)), _, _, rfl, rfl, _, rfl, ?_⟩
    rw [D.len]
    refine ite2 (fun h1 => ?_) fun h1 => ?_
    · have h1 : s'.pos < c.length := by
        have := of_decide_eq_true h1
        omega
      refine ⟨fun σ' H'' => ∃ m', m' < c.length - s'.pos ∧ ∃ (M' : List Addr) (s' : MS), σ' = [some (.ref l), some (.int n), some (.ref x)] ∧ m' = c.length - s'.pos ∧ Rec C R CC H'' x M' c s' ∧ MX.WF c s' ∧ MX.Siz s' ∧ MX.mrun n c (c.length + 1) s' = Vbdeam.tree n c ∧ Same H (off M' H''), fun σ' H'' h => h, ?_⟩
      refine ⟨_, rfl, x, dx, _, rfl, D.obj, rfl, x, M', c, s', n, rfl, hrec, wf, hsz, by omega, h1, hn8, hc.2, fun t ht M2 H2' hrec2 sm2 => ?_, fun hno => (kr ?_).mono sm⟩
      · obtain ⟨p1, p2, _⟩ := MX.step_parts wf ht
        refine ⟨c.length - t.pos, by omega, M2, t, rfl, rfl, hrec2, p2, MX.step_siz wf hsz ht, ?_, sm.trans sm2⟩
        rw [← hrun]
        conv => rhs; unfold MX.mrun
        rw [if_pos h1, ht]
        exact MX.mrun_stable _ _ t p2 (by omega) (by omega)
      · rw [hexp, ← hrun]
        unfold MX.mrun
        rw [if_pos h1, hno]
        rfl
    · have h1 : ¬ s'.pos < c.length := fun z => h1 (decide_eq_true (by omega))
      have hon : MX.only s'.cur = Vbdeam.tree n c := by
        rw [← hrun]
        unfold MX.mrun
        rw [if_neg h1]
      refine ⟨_, rfl, x, dx, _, rfl, D.obj, rfl, x, M', c, s', rfl, hrec, fun e he a H3 hna _ sm3 => ?_, fun hno => (kr ?_).mono sm⟩
      · refine k e ?_ a H3 (sm.trans (sm3.trans (off_same _ _))) (hna.same (off_same _ _))
        rw [hexp, ← hon, he]
        rfl
      · rw [hexp, ← hon]
        unfold MX.only
        split
        · rename_i e he
          exact absurd he (hno e)
        · rfl
end
end SB
end
section
set_option linter.all false
set_option maxRecDepth 10000
namespace MX
open Vbdeaa (Exp Exps Un Bin Tok Text tokens token numberToken digit letter wordSign blank digitsValue text sg wd decimal shownQ proper small frac)
def Lex (w : Text) (ts : List Tok) (s : Text) : Prop := ∀ k p, (w ++ s).length < k → ∃ k' p', s.length < k' ∧ (tokens k p (w ++ s)).map Prod.fst = ts ++ (tokens k' p' s).map Prod.fst
theorem Lex.app {w1 w2 : Text} {t1 t2 : List Tok} {s : Text} (h1 : Lex w1 t1 (w2 ++ s)) (h2 : Lex w2 t2 s) : Lex (w1 ++ w2) (t1 ++ t2) s := by
  intro k p hk
  rw [List.append_assoc] at hk ⊢
  obtain ⟨k1, p1, h, e1⟩ := h1 k p hk
  obtain ⟨k2, p2, h', e2⟩ := h2 k1 p1 h
  exact ⟨k2, p2, h', by rw [e1, e2, List.append_assoc]⟩
theorem Lex.blank {s : Text} : Lex [32] [] s := by
  intro k p hk
  cases k with
  | zero => omega
  | succ k => exact ⟨k, p + 1, by simp only [List.length_append, List.length_cons, List.length_nil] at hk; omega, rfl⟩
theorem Lex.tok {c : Int} {w s : Text} {x : Tok} (hb : Vbdeaa.blank c = false) (h : token (c :: w ++ s) = (x, s)) (hx : x ≠ .bad) : Lex (c :: w) [x] s := by
  intro k p hk
  cases k with
  | zero => omega
  | succ k =>
    refine ⟨k, p + ((c :: w ++ s).length - s.length), by simp only [List.length_append, List.length_cons] at hk; omega, ?_⟩
    have e : tokens (k + 1) p (c :: w ++ s) = (x, p) :: tokens k (p + ((c :: w ++ s).length - s.length)) s := by
      show (if Vbdeaa.blank c = true then tokens k (p + 1) (w ++ s) else match token (c :: w ++ s) with
        | (.bad, _) => [(.bad, p)]
        | (x, s') => (x, p) :: tokens k (p + ((c :: w ++ s).length - s'.length)) s') = _
      rw [hb, h]
      cases x <;> first | exact absurd rfl hx | rfl
    rw [e]
    rfl
def After (s : Text) : Prop := ∀ c, s.head? = some c → c = 32 ∨ c = 40 ∨ c = 41 ∨ c = 44
theorem after_nil : After [] := fun c h => by cases h
theorem after_cons {c : Int} {s : Text} (h : c = 32 ∨ c = 40 ∨ c = 41 ∨ c = 44) : After (c :: s) := fun d e => by cases e; exact h
theorem decimal_eq (n : Nat) : decimal n = (Nat.toDigits 10 n).map fun c => (c.toNat : Int) := by
  unfold Vbdeaa.decimal Vbdeaa.text
  rw [Nat.toString_eq_repr, Nat.toList_repr]
theorem decimal_digit {n : Nat} {c : Int} (h : c ∈ decimal n) : digit c = true := by
  rw [decimal_eq] at h
  obtain ⟨d, hd, rfl⟩ := List.mem_map.mp h
  have := Nat.isDigit_of_mem_toDigits (by decide) (by decide) hd
  unfold Vbdeaa.digit
  simp only [Char.isDigit, Bool.and_eq_true, decide_eq_true_eq, UInt32.le_iff_toNat_le, ge_iff_le] at this ⊢
  have h1 : '0'.val.toNat = 48 := rfl
  have h2 : '9'.val.toNat = 57 := rfl
  have h3 : d.toNat = d.val.toNat := rfl
  omega
theorem decimal_ne (n : Nat) : decimal n ≠ [] := by
  rw [decimal_eq]
  intro h
  exact Nat.toDigits_ne_nil (List.map_eq_nil_iff.mp h)
theorem decimal_value (n : Nat) : digitsValue (decimal n) = n := by
  unfold Vbdeaa.digitsValue
  rw [decimal_eq, List.foldl_map]
  have : ∀ (l : List Char) (m : Nat), (∀ c ∈ l, c.isDigit = true) → l.foldl (fun x y => 10 * x + ((y.toNat : Int) - 48).toNat) m = Nat.ofDigitChars 10 l m := by
    intro l
    induction l with
    | nil => intro m _; rw [Nat.ofDigitChars_nil]; rfl
    | cons c r ih =>
      intro m hc
      rw [Nat.ofDigitChars_cons, List.foldl_cons, ih _ fun d hd => hc d (List.mem_cons_of_mem _ hd)]
      have h0 : '0'.toNat = 48 := rfl
      rw [h0]
      have e2 : ((c.toNat : Int) - 48).toNat = c.toNat - 48 := by omega
      rw [e2]
  rw [this _ _ fun c hc => Nat.isDigit_of_mem_toDigits (by decide) (by decide) hc]
  exact Nat.ofDigitChars_ten_toDigits
theorem takeW {p : Int → Bool} : ∀ {a s : Text}, (∀ c ∈ a, p c = true) → (∀ c, s.head? = some c → p c = false) → (a ++ s).takeWhile p = a ∧ (a ++ s).dropWhile p = s
  | [], [], _, _ => ⟨rfl, rfl⟩
  | [], c :: s, _, h => by
    have := h c rfl
    simp only [List.nil_append, List.takeWhile_cons, List.dropWhile_cons, this]
    exact ⟨by first | rfl | trivial, by first | rfl | trivial⟩
  | x :: a, s, h, g => by
    have hx := h x List.mem_cons_self
    have := takeW (a := a) (s := s) (fun c hc => h c (List.mem_cons_of_mem _ hc)) g
    simp only [List.cons_append, List.takeWhile_cons, List.dropWhile_cons, hx, if_true, this.1, this.2]
    exact ⟨by first | rfl | trivial, by first | rfl | trivial⟩
theorem frac_one {n : Int} {d : Nat} (h : Nat.gcd n.natAbs d = 1) : frac n d = (n, d) := by
  unfold Vbdeaa.frac
  rw [h]
  simp
theorem lex_num {q : Vbdeaa.Q} {s : Text} (h : proper q = true) (h0 : 0 ≤ q.1) (hs : After s) : Lex (shownQ q) [.num q] s := by
  obtain ⟨n, d⟩ := q
  obtain ⟨m, rfl⟩ : ∃ m : Nat, n = m := ⟨n.toNat, by simp only at h0; omega⟩
  unfold Vbdeaa.proper at h
  simp only [Bool.and_eq_true, beq_iff_eq, Int.natAbs_natCast] at h
  have hf : frac (m : Int) d = ((m : Int), d) := frac_one (by rw [Int.natAbs_natCast]; exact h.2)
  have hd1 : 1 ≤ d := by
    have := h.1
    unfold Vbdeaa.small at this
    simp only [Bool.and_eq_true, decide_eq_true_eq] at this
    exact this.2.1
  have hsd : ∀ c, s.head? = some c → digit c = false := fun c hc => by rcases hs c hc with rfl | rfl | rfl | rfl <;> rfl
  have hsl : (s.head?.any fun c => letter c || (c == 95 || (c == 46 || c == 58))) = false := by
    cases hc : s.head? with
    | none => rfl
    | some c => rcases hs c hc with rfl | rfl | rfl | rfl <;> rfl
  have hs46 : (s.head? == some 46 || s.head? == some 58) = false := by
    cases hc : s.head? with
    | none => rfl
    | some c => rcases hs c hc with rfl | rfl | rfl | rfl <;> rfl
  have key : numberToken (shownQ ((m : Int), d) ++ s) = (.num ((m : Int), d), s) := by
    unfold Vbdeaa.shownQ
    simp only [Int.natAbs_natCast]
    by_cases h1 : d = 1
    · subst h1
      have tw := takeW (p := digit) (a := decimal m) (s := s) (fun c hc => decimal_digit hc) hsd
      unfold Vbdeaa.numberToken
      simp only [if_true, List.append_nil, tw.1, tw.2, hs46, Bool.false_and, Bool.false_eq_true, if_false, List.length_nil, Nat.pow_zero, hsl, decimal_value, or_false, Nat.one_ne_zero, hf]
      rw [if_pos h.1]
    · rw [if_neg h1]
      have tw := takeW (p := digit) (a := decimal m) (s := 58 :: decimal d ++ s) (fun c hc => decimal_digit hc) (fun c hc => by cases hc; rfl)
      have tw2 := takeW (p := digit) (a := decimal d) (s := s) (fun c hc => decimal_digit hc) hsd
      obtain ⟨x, xs, hx⟩ : ∃ x xs, decimal d = x :: xs := by
        cases hq : decimal d with
        | nil => exact absurd hq (decimal_ne d)
        | cons x xs => exact ⟨x, xs, rfl⟩
      have hdx : digit x = true := decimal_digit (n := d) (by rw [hx]; exact List.mem_cons_self)
      have hany : ((decimal d ++ s).head?.any digit) = true := by rw [hx]; exact hdx
      unfold Vbdeaa.numberToken
      rw [List.append_assoc, tw.1, tw.2]
      have e46 : ((58 :: decimal d ++ s).head? == some 46 || (58 :: decimal d ++ s).head? == some 58) = true := rfl
      have e58 : ((58 :: decimal d ++ s).head? == some 58) = true := rfl
      have edr : (58 :: decimal d ++ s).drop 1 = decimal d ++ s := rfl
      simp only [e58, edr, hany, Bool.or_true, Bool.and_true, Bool.and_self, Bool.true_and, if_true, tw2.1, tw2.2, decimal_value, hsl, Bool.false_eq_true, or_false, hf]
      rw [if_neg (by omega), if_pos h.1]
  obtain ⟨x, xs, hx⟩ : ∃ x xs, shownQ ((m : Int), d) = x :: xs := by
    cases hq : decimal m with
    | nil => exact absurd hq (decimal_ne m)
    | cons x xs => exact ⟨x, xs ++ (if d = 1 then [] else 58 :: decimal d), by unfold Vbdeaa.shownQ; simp only [Int.natAbs_natCast, hq]; rfl⟩
  have hdx : digit x = true := by
    have : x ∈ decimal m := by
      cases hq : decimal m with
      | nil => exact absurd hq (decimal_ne m)
      | cons y ys =>
        unfold Vbdeaa.shownQ at hx
        simp only [Int.natAbs_natCast, hq] at hx
        cases hx
        exact List.mem_cons_self
    exact decimal_digit this
  rw [hx] at key ⊢
  refine Lex.tok ?_ ?_ (by simp)
  · unfold Vbdeaa.digit at hdx
    have := of_decide_eq_true hdx
    unfold Vbdeaa.blank
    simp only [Bool.or_eq_false_iff, beq_eq_false_iff_ne, ne_eq]
    refine ⟨?_, ?_, ?_, ?_⟩ <;> omega
  · show token (x :: (xs ++ s)) = _
    unfold Vbdeaa.token
    simp only [hdx, if_true]
    exact key
theorem nameOf_app {n s : Text} (h : Vbdeaa.nameOf n = n) (hs : After s) : Vbdeaa.nameOf (n ++ s) = n := by
  have hsw : ∀ c, s.head? = some c → wordSign c = false := fun c hc => by rcases hs c hc with rfl | rfl | rfl | rfl <;> rfl
  have hs46 : s.head? ≠ some 46 := fun e => by rcases hs _ e with h | h | h | h <;> cases h
  unfold Vbdeaa.nameOf at h
  simp only at h
  have htd : n.takeWhile wordSign ++ n.dropWhile wordSign = n := List.takeWhile_append_dropWhile
  have hall : ∀ c ∈ n.takeWhile wordSign, wordSign c = true := fun c hc => by
    have := List.all_takeWhile (p := wordSign) (l := n)
    exact List.all_eq_true.mp this c hc
  by_cases hc : (n.dropWhile wordSign).head? = some 46 ∧ ((n.dropWhile wordSign).drop 1).head?.any letter = true
  · rw [if_pos hc] at h
    generalize hw : n.takeWhile wordSign = w at *
    generalize hr : n.dropWhile wordSign = r at *
    obtain ⟨c1, c2⟩ := hc
    cases r with
    | nil => cases c1
    | cons y r =>
      cases c1
      rw [List.drop_one, List.tail_cons] at h c2
      have hr2 : r.takeWhile wordSign = r := by
        have := htd.trans h.symm
        have := List.append_cancel_left this
        injection this with _ h3
        exact h3.symm
      have hall2 : ∀ c ∈ r, wordSign c = true := fun c hc => by
        have := List.all_takeWhile (p := wordSign) (l := r)
        rw [hr2] at this
        exact List.all_eq_true.mp this c hc
      have e1 : n ++ s = w ++ (46 :: (r ++ s)) := by rw [← htd]; simp
      have t1 := takeW (p := wordSign) (a := w) (s := 46 :: (r ++ s)) hall (fun c hc => by cases hc; rfl)
      have t2 := takeW (p := wordSign) (a := r) (s := s) hall2 hsw
      unfold Vbdeaa.nameOf
      simp only
      rw [e1, t1.1, t1.2]
      have c3 : ((46 :: (r ++ s)).drop 1).head?.any letter = true := by
        rw [List.drop_one, List.tail_cons]
        cases r with
        | nil => cases c2
        | cons z r => exact c2
      rw [if_pos ⟨rfl, c3⟩, List.drop_one, List.tail_cons, t2.1]
      exact htd
  · rw [if_neg hc] at h
    have hall3 : ∀ c ∈ n, wordSign c = true := fun c hc => hall c (by rw [h]; exact hc)
    have t1 := takeW (p := wordSign) (a := n) (s := s) hall3 hsw
    unfold Vbdeaa.nameOf
    simp only
    rw [t1.1, t1.2, if_neg (fun z => hs46 z.1)]
theorem lex_name {n s : Text} (h : Vbdeaa.isName n = true) (hs : After s) : Lex n [.name n] s := by
  unfold Vbdeaa.isName at h
  simp only [Bool.and_eq_true, beq_iff_eq, decide_eq_true_eq, Bool.not_eq_true'] at h
  obtain ⟨h1, h2, h3, h4⟩ := h
  cases n with
  | nil => cases h1
  | cons c n =>
    have hl : letter c = true := h1
    have hd : digit c = false := by
      unfold Vbdeaa.letter at hl
      have := of_decide_eq_true hl
      unfold Vbdeaa.digit
      exact decide_eq_false (by omega)
    refine Lex.tok ?_ ?_ (by simp)
    · unfold Vbdeaa.letter at hl
      have := of_decide_eq_true hl
      unfold Vbdeaa.blank
      simp only [Bool.or_eq_false_iff, beq_eq_false_iff_ne, ne_eq]
      refine ⟨?_, ?_, ?_, ?_⟩ <;> omega
    · show token (c :: (n ++ s)) = _
      unfold Vbdeaa.token
      simp only [hd, hl, if_true, Bool.false_eq_true, if_false]
      have e : Vbdeaa.nameOf (c :: (n ++ s)) = c :: n := nameOf_app (n := c :: n) h2 hs
      have hw : ¬ (c :: n) ∈ Vbdeaa.WORDS := fun z => by
        have := List.contains_iff_mem.mpr z
        rw [this] at h4
        cases h4
      rw [e, if_neg (by omega), if_neg hw, show c :: (n ++ s) = (c :: n) ++ s from rfl, List.drop_left]
end MX
end
section
set_option linter.all false
set_option maxRecDepth 10000
namespace MX
open Vbdeaa (Exp Exps Un Bin Tok Text tokens token text sg wd decimal shownQ proper unWord binSign binNeeds closed)
mutual
def Fit : Exp → Prop
  | .num q => proper q = true ∧ 0 ≤ q.1
  | .name n => Vbdeaa.isName n = true ∧ ∀ c ∈ n, 0 ≤ c
  | .un _ a => Fit a
  | .bin _ a b => Fit a ∧ Fit b
  | .and a b => Fit a ∧ Fit b
  | .or a b => Fit a ∧ Fit b
  | .cond c a b => Fit c ∧ Fit a ∧ Fit b
  | .best _ l => FitA l ∧ l ≠ .nil
  | .use n l => (Vbdeaa.isName n = true ∧ ∀ c ∈ n, 0 ≤ c) ∧ FitA l ∧ l ≠ .nil
def FitA : Exps → Prop
  | .nil => True
  | .cons e l => Fit e ∧ FitA l
end
def cl (level need : Nat) (t : List Tok) : List Tok := if level < need then sg "(" :: (t ++ [sg ")"]) else t
def binTok (o : Bin) : Tok := sg (binSign o)
mutual
def T : Exp → List Tok
  | .num q => [.num q]
  | .name n => [.name n]
  | .un .neg a => sg "-" :: cl a.level 7 (T a)
  | .un .not a => wd "not" :: cl a.level 3 (T a)
  | .un o a => wd (unWord o) :: sg "(" :: (T a ++ [sg ")"])
  | .bin o a b => cl a.level (binNeeds o).1 (T a) ++ (binTok o :: cl b.level (binNeeds o).2 (T b))
  | .and a b => cl a.level 2 (T a) ++ (wd "and" :: cl b.level 3 (T b))
  | .or a b => cl a.level 1 (T a) ++ (wd "or" :: cl b.level 2 (T b))
  | .cond c a b => wd "if" :: (T c ++ (wd "then" :: (T a ++ (wd "else" :: T b))))
  | .best g l => wd (if g = true then "max" else "min") :: sg "(" :: (TA l ++ [sg ")"])
  | .use n l => .name n :: sg "(" :: (TA l ++ [sg ")"])
def TA : Exps → List Tok
  | .nil => []
  | .cons e .nil => T e
  | .cons e (.cons f l) => T e ++ (sg "," :: TA (.cons f l))
end
theorem lex_sgn {c : Int} {s : Text} {x : Tok} (hb : Vbdeaa.blank c = false) (h : token (c :: s) = (x, s)) (hx : x ≠ .bad) : Lex [c] [x] s := Lex.tok hb h hx
theorem lex_open {s : Text} : Lex [40] [sg "("] s := lex_sgn rfl rfl (by simp [Vbdeaa.sg])
theorem lex_shut {s : Text} : Lex [41] [sg ")"] s := lex_sgn rfl rfl (by simp [Vbdeaa.sg])
theorem lex_comma {s : Text} : Lex (text ", ") [sg ","] s := Lex.app (w1 := [44]) (w2 := [32]) (t1 := [sg ","]) (t2 := []) (lex_sgn rfl rfl (by simp [Vbdeaa.sg])) Lex.blank
theorem lex_minus {s : Text} : Lex [45] [sg "-"] s := lex_sgn rfl rfl (by simp [Vbdeaa.sg])
theorem lex_brackets {t s : Text} {ts : List Tok} (h : ∀ s, After s → Lex t ts s) : Lex (40 :: (t ++ [41])) (sg "(" :: (ts ++ [sg ")"])) s :=
  Lex.app (w1 := [40]) (t1 := [sg "("]) lex_open (Lex.app (h _ (after_cons (.inr (.inr (.inl rfl))))) lex_shut)
theorem lex_closed {lv nd : Nat} {t s : Text} {ts : List Tok} (h : ∀ s, After s → Lex t ts s) (hs : After s) : Lex (closed lv nd t) (cl lv nd ts) s := by
  unfold Vbdeaa.closed cl
  by_cases c : lv < nd
  · rw [if_pos c, if_pos c]; exact lex_brackets h
  · rw [if_neg c, if_neg c]; exact h s hs
theorem lex_bin (o : Bin) {s : Text} : Lex (text (binSign o)) [binTok o] (32 :: s) := by
  cases o with
  | ne => exact Lex.tok (c := 60) (w := [62]) rfl rfl (by simp [binTok, Vbdeaa.sg])
  | le => exact Lex.tok (c := 60) (w := [61]) rfl rfl (by simp [binTok, Vbdeaa.sg])
  | ge => exact Lex.tok (c := 62) (w := [61]) rfl rfl (by simp [binTok, Vbdeaa.sg])
  | quo => exact Lex.tok (c := 47) (w := [47]) rfl rfl (by simp [binTok, Vbdeaa.sg])
  | add => exact Lex.tok (c := 43) (w := []) rfl rfl (by simp [binTok, Vbdeaa.sg])
  | sub => exact Lex.tok (c := 45) (w := []) rfl rfl (by simp [binTok, Vbdeaa.sg])
  | mul => exact Lex.tok (c := 42) (w := []) rfl rfl (by simp [binTok, Vbdeaa.sg])
  | div => exact Lex.tok (c := 47) (w := []) rfl rfl (by simp [binTok, Vbdeaa.sg])
  | rem => exact Lex.tok (c := 37) (w := []) rfl rfl (by simp [binTok, Vbdeaa.sg])
  | pow => exact Lex.tok (c := 94) (w := []) rfl rfl (by simp [binTok, Vbdeaa.sg])
  | eq => exact Lex.tok (c := 61) (w := []) rfl rfl (by simp [binTok, Vbdeaa.sg])
  | lt => exact Lex.tok (c := 60) (w := []) rfl rfl (by simp [binTok, Vbdeaa.sg])
  | gt => exact Lex.tok (c := 62) (w := []) rfl rfl (by simp [binTok, Vbdeaa.sg])
theorem wd_ne (w : String) : wd w ≠ .bad := by simp [Vbdeaa.wd]
theorem lex_not {s : Text} : Lex (text "not ") [wd "not"] s := Lex.app (w1 := [110, 111, 116]) (w2 := [32]) (t1 := [wd "not"]) (t2 := []) (Lex.tok rfl rfl (wd_ne _)) Lex.blank
theorem lex_if {s : Text} : Lex (text "if ") [wd "if"] s := Lex.app (w1 := [105, 102]) (w2 := [32]) (t1 := [wd "if"]) (t2 := []) (Lex.tok rfl rfl (wd_ne _)) Lex.blank
theorem lex_then {s : Text} : Lex (text " then ") [wd "then"] s := Lex.app (w1 := [32]) (w2 := [116, 104, 101, 110, 32]) (t1 := []) Lex.blank (Lex.app (w1 := [116, 104, 101, 110]) (w2 := [32]) (t1 := [wd "then"]) (t2 := []) (Lex.tok rfl rfl (wd_ne _)) Lex.blank)
theorem lex_else {s : Text} : Lex (text " else ") [wd "else"] s := Lex.app (w1 := [32]) (w2 := [101, 108, 115, 101, 32]) (t1 := []) Lex.blank (Lex.app (w1 := [101, 108, 115, 101]) (w2 := [32]) (t1 := [wd "else"]) (t2 := []) (Lex.tok rfl rfl (wd_ne _)) Lex.blank)
theorem lex_and {s : Text} : Lex (text " and ") [wd "and"] s := Lex.app (w1 := [32]) (w2 := [97, 110, 100, 32]) (t1 := []) Lex.blank (Lex.app (w1 := [97, 110, 100]) (w2 := [32]) (t1 := [wd "and"]) (t2 := []) (Lex.tok rfl rfl (wd_ne _)) Lex.blank)
theorem lex_or {s : Text} : Lex (text " or ") [wd "or"] s := Lex.app (w1 := [32]) (w2 := [111, 114, 32]) (t1 := []) Lex.blank (Lex.app (w1 := [111, 114]) (w2 := [32]) (t1 := [wd "or"]) (t2 := []) (Lex.tok rfl rfl (wd_ne _)) Lex.blank)
theorem lex_maxmin (g : Bool) {s : Text} : Lex (text (if g = true then "max(" else "min(")) [wd (if g = true then "max" else "min"), sg "("] s := by
  cases g with
  | false => exact Lex.app (w1 := [109, 105, 110]) (w2 := [40]) (t1 := [wd "min"]) (t2 := [sg "("]) (Lex.tok rfl rfl (wd_ne _)) lex_open
  | true => exact Lex.app (w1 := [109, 97, 120]) (w2 := [40]) (t1 := [wd "max"]) (t2 := [sg "("]) (Lex.tok rfl rfl (wd_ne _)) lex_open
def unPlain : Un → Bool
  | .neg => false
  | .not => false
  | _ => true
theorem lex_un (o : Un) (h : unPlain o = true) {s : Text} : Lex (text (unWord o)) [wd (unWord o)] (40 :: s) := by
  cases o with
  | neg => cases h
  | not => cases h
  | floor => exact Lex.tok (c := 102) (w := [108, 111, 111, 114]) rfl rfl (wd_ne _)
  | ceil => exact Lex.tok (c := 99) (w := [101, 105, 108]) rfl rfl (wd_ne _)
  | abs => exact Lex.tok (c := 97) (w := [98, 115]) rfl rfl (wd_ne _)
  | sign => exact Lex.tok (c := 115) (w := [105, 103, 110]) rfl rfl (wd_ne _)
  | num => exact Lex.tok (c := 110) (w := [117, 109]) rfl rfl (wd_ne _)
  | den => exact Lex.tok (c := 100) (w := [101, 110]) rfl rfl (wd_ne _)
theorem shown_un {o : Un} (h : unPlain o = true) (a : Exp) : (Exp.un o a).shown = text (unWord o) ++ (40 :: (a.shown ++ [41])) ∧ T (.un o a) = wd (unWord o) :: sg "(" :: (T a ++ [sg ")"]) := by
  cases o <;> first | exact ⟨rfl, rfl⟩ | cases h
mutual
theorem lex_exp : ∀ (e : Exp), Fit e → ∀ s, After s → Lex e.shown (T e) s
  | .num q, h, s, hs => lex_num h.1 h.2 hs
  | .name n, h, s, hs => lex_name h.1 hs
  | .un o a, h, s, hs => by
    have ih := lex_exp a h
    by_cases hp : unPlain o = true
    · rw [(shown_un hp a).1, (shown_un hp a).2]
      exact Lex.app (t1 := [wd (unWord o)]) (lex_un o hp) (lex_brackets ih)
    · cases o with
      | neg => exact Lex.app (w1 := [45]) (t1 := [sg "-"]) lex_minus (lex_closed ih hs)
      | not => exact Lex.app (w1 := text "not ") (t1 := [wd "not"]) lex_not (lex_closed ih hs)
      | _ => exact absurd rfl hp
  | .bin o a b, h, s, hs => Lex.app (lex_closed (lex_exp a h.1) (after_cons (.inl rfl))) (Lex.app (w1 := [32]) (t1 := []) Lex.blank (Lex.app (t1 := [binTok o]) (lex_bin o) (Lex.app (w1 := [32]) (t1 := []) Lex.blank (lex_closed (lex_exp b h.2) hs))))
  | .and a b, h, s, hs => Lex.app (lex_closed (lex_exp a h.1) (after_cons (.inl rfl))) (Lex.app (t1 := [wd "and"]) lex_and (lex_closed (lex_exp b h.2) hs))
  | .or a b, h, s, hs => Lex.app (lex_closed (lex_exp a h.1) (after_cons (.inl rfl))) (Lex.app (t1 := [wd "or"]) lex_or (lex_closed (lex_exp b h.2) hs))
  | .cond c a b, h, s, hs => Lex.app (t1 := [wd "if"]) lex_if (Lex.app (lex_exp c h.1 _ (after_cons (.inl rfl))) (Lex.app (t1 := [wd "then"]) lex_then (Lex.app (lex_exp a h.2.1 _ (after_cons (.inl rfl))) (Lex.app (t1 := [wd "else"]) lex_else (lex_exp b h.2.2 _ hs)))))
  | .best g l, h, s, hs => Lex.app (t1 := [wd (if g = true then "max" else "min"), sg "("]) (lex_maxmin g) (Lex.app (lex_exps l h.1 _ (after_cons (.inr (.inr (.inl rfl))))) lex_shut)
  | .use n l, h, s, hs => Lex.app (t1 := [.name n]) (lex_name h.1.1 (after_cons (.inr (.inl rfl)))) (Lex.app (w1 := [40]) (t1 := [sg "("]) lex_open (Lex.app (lex_exps l h.2.1 _ (after_cons (.inr (.inr (.inl rfl))))) lex_shut))
theorem lex_exps : ∀ (l : Exps), FitA l → ∀ s, After s → Lex l.shown (TA l) s
  | .nil, h, s, hs => fun k p hk => ⟨k, p, hk, rfl⟩
  | .cons e .nil, h, s, hs => lex_exp e h.1 s hs
  | .cons e (.cons f l), h, s, hs => Lex.app (lex_exp e h.1 _ (after_cons (.inr (.inr (.inr rfl))))) (Lex.app (t1 := [sg ","]) lex_comma (lex_exps (.cons f l) h.2 s hs))
end
theorem toks_shown {e : Exp} (h : Fit e) : (Vbdeaa.tokensOf e.shown).map Prod.fst = T e ++ [.eof] := by
  obtain ⟨k, p, hk, q⟩ := lex_exp e h [] after_nil (e.shown.length + 1) 0 (by rw [List.append_nil]; omega)
  rw [List.append_nil] at q
  unfold Vbdeaa.tokensOf
  rw [q]
  cases k <;> rfl
end MX
end
section
set_option linter.all false
set_option maxRecDepth 10000
namespace MX
open Vbdeaa (Exp Exps Un Bin Tok Text Toks text sg wd unWord binSign binNeeds exp joins atom args peek isTok then_ give opens must joiner oneOf place)
def na (lv nd n : Nat) : Nat := if lv < nd then n + 1 else n
mutual
def nest : Exp → Nat
  | .num _ => 0
  | .name _ => 0
  | .un .neg a => na a.level 7 (nest a) + 1
  | .un .not a => na a.level 3 (nest a) + 1
  | .un _ a => nest a + 1
  | .bin o a b => max (na a.level (binNeeds o).1 (nest a)) (na b.level (binNeeds o).2 (nest b) + (if o = .pow then 1 else 0))
  | .and a b => max (na a.level 2 (nest a)) (na b.level 3 (nest b))
  | .or a b => max (na a.level 1 (nest a)) (na b.level 2 (nest b))
  | .cond c a b => max (nest c) (max (nest a) (nest b)) + 1
  | .best _ l => nestA l + 1
  | .use _ l => nestA l + 1
def nestA : Exps → Nat
  | .nil => 0
  | .cons e l => max (nest e) (nestA l)
end
def Res {α : Type} (P : Prop) (x y : Except Nat α) : Prop := (P → x = y) ∧ (¬ P → ∃ p, x = .error p)
theorem Res.iff {α : Type} {P Q : Prop} {x y : Except Nat α} (h : Res P x y) (e : P ↔ Q) : Res Q x y := ⟨fun q => h.1 (e.mpr q), fun q => h.2 fun p => q (e.mp p)⟩
theorem Res.sure {α : Type} {P : Prop} {x y : Except Nat α} (h : x = y) (p : P) : Res P x y := ⟨fun _ => h, fun q => absurd p q⟩
theorem Res.trans {α : Type} {P Q : Prop} {x y z : Except Nat α} (h : Res P x y) (g : P → Res Q y z) : Res (P ∧ Q) x z := by
  refine ⟨fun pq => (h.1 pq.1).trans ((g pq.1).1 pq.2), fun n => ?_⟩
  by_cases p : P
  · have := (g p).2 fun q => n ⟨p, q⟩
    rw [h.1 p]; exact this
  · exact h.2 p
theorem Res.bind {α β : Type} {P Q : Prop} {m : Vbdeaa.P α} {f : α → Vbdeaa.P β} {t r : Toks} {a : α} {y : Except Nat (β × Toks)} (h : Res P (m t) (.ok (a, r))) (g : P → Res Q (f a r) y) : Res (P ∧ Q) (then_ m f t) y := by
  refine Res.trans (y := f a r) ⟨fun p => ?_, fun n => ?_⟩ g
  · unfold Vbdeaa.then_; rw [h.1 p]
  · obtain ⟨l, e⟩ := h.2 n
    exact ⟨l, by unfold Vbdeaa.then_; rw [e]⟩
theorem res_opens (d : Nat) (t : Toks) : Res (0 < d) (opens d t) (.ok (d - 1, t.drop 1)) := by
  unfold Vbdeaa.opens
  by_cases h : d = 0
  · subst h; exact ⟨fun z => absurd z (by omega), fun _ => ⟨place t, rfl⟩⟩
  · exact ⟨fun _ => by rw [if_neg h], fun z => absurd (by omega) z⟩
theorem res_must {x : Tok} {p : Nat} {t : Toks} : Res True (must x ((x, p) :: t)) (.ok ((), t)) := by
  refine Res.sure ?_ trivial
  unfold Vbdeaa.must Vbdeaa.isTok Vbdeaa.peek
  simp
theorem res_give {α : Type} (a : α) (t : Toks) : Res True (give a t) (.ok (a, t)) := Res.sure rfl trivial
def hdOk (L : Nat) (x : Tok) : Prop := (1 ≤ L → x ≠ wd "if") ∧ (4 ≤ L → x ≠ wd "not") ∧ (8 ≤ L → x ≠ sg "-")
theorem hdOk.le {L M : Nat} {x : Tok} (h : hdOk L x) (hm : M ≤ L) : hdOk M x := ⟨fun z => h.1 (by omega), fun z => h.2.1 (by omega), fun z => h.2.2 (by omega)⟩
theorem hdOk.all {x : Tok} (h1 : x ≠ wd "if") (h2 : x ≠ wd "not") (h3 : x ≠ sg "-") (L : Nat) : hdOk L x := ⟨fun _ => h1, fun _ => h2, fun _ => h3⟩
theorem hd_cl {e : Exp} {L : Nat} (h : ∃ x ts, T e = x :: ts ∧ hdOk e.level x) : ∃ x ts, cl e.level L (T e) = x :: ts ∧ hdOk L x := by
  unfold cl
  by_cases c : e.level < L
  · exact ⟨sg "(", _, if_pos c, hdOk.all (by decide) (by decide) (by decide) _⟩
  · obtain ⟨x, ts, h1, h2⟩ := h
    exact ⟨x, ts, by rw [if_neg c, h1], h2.le (by omega)⟩
theorem hd_T : ∀ (e : Exp), ∃ x ts, T e = x :: ts ∧ hdOk e.level x
  | .num q => ⟨_, _, rfl, hdOk.all (by simp [Vbdeaa.wd]) (by simp [Vbdeaa.wd]) (by simp [Vbdeaa.sg]) _⟩
  | .name q => ⟨_, _, rfl, hdOk.all (by simp [Vbdeaa.wd]) (by simp [Vbdeaa.wd]) (by simp [Vbdeaa.sg]) _⟩
  | .un o a => by
    cases o with
    | neg => exact ⟨_, _, rfl, fun _ => by decide, fun _ => by decide, fun (z : 8 ≤ 7) => absurd z (by decide)⟩
    | not => exact ⟨_, _, rfl, fun _ => by decide, fun (z : 4 ≤ 3) => absurd z (by decide), fun (z : 8 ≤ 3) => absurd z (by decide)⟩
    | floor => exact ⟨_, _, rfl, hdOk.all (by decide) (by decide) (by decide) _⟩
    | ceil => exact ⟨_, _, rfl, hdOk.all (by decide) (by decide) (by decide) _⟩
    | abs => exact ⟨_, _, rfl, hdOk.all (by decide) (by decide) (by decide) _⟩
    | sign => exact ⟨_, _, rfl, hdOk.all (by decide) (by decide) (by decide) _⟩
    | num => exact ⟨_, _, rfl, hdOk.all (by decide) (by decide) (by decide) _⟩
    | den => exact ⟨_, _, rfl, hdOk.all (by decide) (by decide) (by decide) _⟩
  | .bin o a b => by
    obtain ⟨x, ts, h1, h2⟩ := hd_cl (L := (binNeeds o).1) (hd_T a)
    refine ⟨x, ts ++ (binTok o :: cl b.level (binNeeds o).2 (T b)), ?_, h2.le ?_⟩
    · show cl a.level (binNeeds o).1 (T a) ++ _ = _
      rw [h1]; rfl
    · cases o <;> exact Nat.le_of_ble_eq_true rfl
  | .and a b => by
    obtain ⟨x, ts, h1, h2⟩ := hd_cl (L := 2) (hd_T a)
    exact ⟨x, ts ++ (wd "and" :: cl b.level 3 (T b)), by show cl a.level 2 (T a) ++ _ = _; rw [h1]; rfl, h2⟩
  | .or a b => by
    obtain ⟨x, ts, h1, h2⟩ := hd_cl (L := 1) (hd_T a)
    exact ⟨x, ts ++ (wd "or" :: cl b.level 2 (T b)), by show cl a.level 1 (T a) ++ _ = _; rw [h1]; rfl, h2⟩
  | .cond c a b => ⟨_, _, rfl, fun (z : 1 ≤ 0) => absurd z (by decide), fun (z : 4 ≤ 0) => absurd z (by decide), fun (z : 8 ≤ 0) => absurd z (by decide)⟩
  | .best g l => by cases g <;> exact ⟨_, _, rfl, hdOk.all (by decide) (by decide) (by decide) _⟩
  | .use n l => ⟨_, _, rfl, hdOk.all (by simp [Vbdeaa.wd]) (by simp [Vbdeaa.wd]) (by simp [Vbdeaa.sg]) _⟩
def Stop (L : Nat) (x : Tok) : Prop := x ≠ sg "(" ∧ (L ≤ 8 → x ≠ sg "^") ∧ (L ≤ 6 → joiner 6 x = none) ∧ (L ≤ 5 → joiner 5 x = none) ∧ (L ≤ 4 → joiner 4 x = none) ∧ (L ≤ 2 → x ≠ wd "and") ∧ (L ≤ 1 → x ≠ wd "or")
theorem Stop.le {L M : Nat} {x : Tok} (h : Stop L x) (hm : L ≤ M) : Stop M x := ⟨h.1, fun z => h.2.1 (by omega), fun z => h.2.2.1 (by omega), fun z => h.2.2.2.1 (by omega), fun z => h.2.2.2.2.1 (by omega), fun z => h.2.2.2.2.2.1 (by omega), fun z => h.2.2.2.2.2.2 (by omega)⟩
theorem stop_all {x : Tok} (h : (x ≠ sg "(" ∧ x ≠ sg "^" ∧ joiner 6 x = none ∧ joiner 5 x = none ∧ joiner 4 x = none ∧ x ≠ wd "and" ∧ x ≠ wd "or")) (L : Nat) : Stop L x := ⟨h.1, fun _ => h.2.1, fun _ => h.2.2.1, fun _ => h.2.2.2.1, fun _ => h.2.2.2.2.1, fun _ => h.2.2.2.2.2.1, fun _ => h.2.2.2.2.2.2⟩
theorem stop_shut (L : Nat) : Stop L (sg ")") := stop_all (by decide) L
theorem stop_comma (L : Nat) : Stop L (sg ",") := stop_all (by decide) L
theorem stop_then (L : Nat) : Stop L (wd "then") := stop_all (by decide) L
theorem stop_else (L : Nat) : Stop L (wd "else") := stop_all (by decide) L
theorem stop_eof (L : Nat) : Stop L .eof := stop_all (by decide) L
def Atom (e : Exp) : Prop := ∀ (k d : Nat) (u r : Toks), u.map Prod.fst = T e → 12 * u.length < k → peek r ≠ sg "(" → Res (nest e ≤ d) (atom k d (u ++ r)) (.ok (e, r))
def Par (e : Exp) (L : Nat) : Prop := ∀ (k d : Nat) (u r : Toks), u.map Prod.fst = T e → 12 * u.length + (10 - L) ≤ k → Stop L (peek r) → Res (nest e ≤ d) (exp k d L (u ++ r)) (.ok (e, r))
def Cho (e : Exp) (L : Nat) : Prop := ∀ (k d : Nat) (u r : Toks), u.map Prod.fst = T e → 12 * u.length + (10 - L) ≤ k → Stop (L + 1) (peek r) → ∃ k', k ≤ k' + u.length ∧ Res (nest e ≤ d) (exp k d L (u ++ r)) (joins k' d L e r)
def chl (L : Nat) : Prop := L = 1 ∨ (L = 2 ∨ (L = 5 ∨ L = 6))
structure All (e : Exp) : Prop where
  par : ∀ L, L ≤ 8 → L ≤ e.level → Par e L
  cho : ∀ L, chl L → L ≤ e.level → Cho e L
  atm : e.level = 9 → Atom e
theorem joins_stop {k d L : Nat} {e : Exp} {r : Toks} (hL : chl L) (hk : 1 ≤ k) (hs : Stop L (peek r)) : joins k d L e r = .ok (e, r) := by
  cases k with
  | zero => omega
  | succ k =>
    rcases hL with rfl | rfl | rfl | rfl
    · have h : isTok r (wd "or") = false := by unfold Vbdeaa.isTok; exact beq_eq_false_iff_ne.mpr (hs.2.2.2.2.2.2 (by decide))
      rw [Vbdeaa.joins.eq_2]
      show (if (1 : Nat) = 1 then (if isTok r (wd "or") = true then _ else _) else _) = _
      rw [if_pos rfl, h]; rfl
    · have h : isTok r (wd "and") = false := by unfold Vbdeaa.isTok; exact beq_eq_false_iff_ne.mpr (hs.2.2.2.2.2.1 (by decide))
      rw [Vbdeaa.joins.eq_2]
      show (if (2 : Nat) = 1 then _ else if (2 : Nat) = 2 then (if isTok r (wd "and") = true then _ else _) else _) = _
      rw [if_neg (by decide), if_pos rfl, h]; rfl
    · have h := hs.2.2.2.1 (by decide)
      rw [Vbdeaa.joins.eq_2]
      show (if (5 : Nat) = 1 then _ else if (5 : Nat) = 2 then _ else match joiner 5 (peek r) with | some o => _ | none => _) = _
      rw [if_neg (by decide), if_neg (by decide), h]
    · have h := hs.2.2.1 (by decide)
      rw [Vbdeaa.joins.eq_2]
      show (if (6 : Nat) = 1 then _ else if (6 : Nat) = 2 then _ else match joiner 6 (peek r) with | some o => _ | none => _) = _
      rw [if_neg (by decide), if_neg (by decide), h]
theorem exp_joins {k d L : Nat} (hL : chl L) (t : Toks) : exp (k + 1) d L t = then_ (exp k d (L + 1)) (fun a => joins k d L a) t := by
  rcases hL with rfl | rfl | rfl | rfl <;> (rw [Vbdeaa.exp.eq_2]; rfl)
theorem exp_four {k d : Nat} (t : Toks) : exp (k + 1) d 4 t = then_ (exp k d 5) (fun a => fun r => match joiner 4 (peek r) with
        | some o => then_ (exp k d 5) (fun b => give (.bin o a b)) (r.drop 1)
        | none => .ok (a, r)) t := by rw [Vbdeaa.exp.eq_2]; rfl
theorem exp_eight {k d : Nat} (t : Toks) : exp (k + 1) d 8 t = then_ (atom k d) (fun a => fun r => if isTok r (sg "^") = true then (then_ (opens d) fun e => then_ (exp k e 7) fun b => give (.bin .pow a b)) r else .ok (a, r)) t := by rw [Vbdeaa.exp.eq_2]; rfl
theorem tok_ne {t : Toks} {x : Tok} (h : peek t ≠ x) : isTok t x = false := by unfold Vbdeaa.isTok; exact beq_eq_false_iff_ne.mpr h
theorem exp_zero {k d : Nat} {t : Toks} (h : peek t ≠ wd "if") : exp (k + 1) d 0 t = exp k d 1 t := by
  rw [Vbdeaa.exp.eq_2]
  show (if (0 : Nat) = 0 ∧ isTok t (wd "if") = true then _ else _) = _
  rw [tok_ne h, if_neg (by simp)]; rfl
theorem exp_three {k d : Nat} {t : Toks} (h : peek t ≠ wd "not") : exp (k + 1) d 3 t = exp k d 4 t := by
  rw [Vbdeaa.exp.eq_2]
  show (if (3 : Nat) = 0 ∧ _ then _ else if (3 : Nat) = 3 ∧ isTok t (wd "not") = true then _ else _) = _
  rw [if_neg (by omega), tok_ne h, if_neg (by simp)]; rfl
theorem exp_seven {k d : Nat} {t : Toks} (h : peek t ≠ sg "-") : exp (k + 1) d 7 t = exp k d 8 t := by
  rw [Vbdeaa.exp.eq_2]
  show (if (7 : Nat) = 0 ∧ _ then _ else if (7 : Nat) = 3 ∧ _ then _ else if (7 : Nat) = 7 ∧ isTok t (sg "-") = true then _ else _) = _
  rw [if_neg (by omega), if_neg (by omega), tok_ne h, if_neg (by simp)]; rfl
theorem Res.and_true {α : Type} {P : Prop} {x y : Except Nat α} (h : Res (P ∧ True) x y) : Res P x y := h.iff ⟨fun z => z.1, fun z => ⟨z, trivial⟩⟩
theorem down {P : Prop} {k d L : Nat} {t r : Toks} {e : Exp} (hL : L ≤ 7) (hk : 1 ≤ k) (h : Res P (exp k d (L + 1) t) (.ok (e, r))) (hh : hdOk (L + 1) (peek t)) (hs : Stop L (peek r)) : Res P (exp (k + 1) d L t) (.ok (e, r)) := by
  have chs : chl L → Res P (exp (k + 1) d L t) (.ok (e, r)) := fun hc => by
    rw [exp_joins hc]
    exact (Res.bind h fun _ => Res.sure (P := True) (joins_stop hc hk hs) trivial).and_true
  rcases (show L = 0 ∨ chl L ∨ L = 3 ∨ L = 4 ∨ L = 7 by unfold chl; omega) with rfl | hc | rfl | rfl | rfl
  · rw [exp_zero (hh.1 (by omega))]; exact h
  · exact chs hc
  · rw [exp_three (hh.2.1 (by omega))]; exact h
  · rw [exp_four]
    refine (Res.bind h fun _ => Res.sure (P := True) ?_ trivial).and_true
    rw [hs.2.2.2.2.1 (by omega)]
  · rw [exp_seven (hh.2.2 (by omega))]; exact h
theorem peek_app {u r : Toks} {x : Tok} {ts : List Tok} (h : u.map Prod.fst = x :: ts) : peek (u ++ r) = x := by
  cases u with
  | nil => cases h
  | cons y u => injection h with h1 h2
theorem len_app {u : Toks} {x : Tok} {ts : List Tok} (h : u.map Prod.fst = x :: ts) : 1 ≤ u.length := by
  cases u with
  | nil => cases h
  | cons y u => simp
theorem build {e : Exp} (h1 : (e.level = 0 ∨ e.level = 3 ∨ e.level = 4 ∨ e.level = 7 ∨ e.level = 8) → Par e e.level) (h2 : chl e.level → Cho e e.level) (h3 : e.level = 9 → Atom e) (hl : e.level ≤ 9) : All e := by
  obtain ⟨x, ts, hT, hx⟩ := hd_T e
  have par : ∀ n L, L + n = 8 → L ≤ e.level → Par e L := by
    intro n
    induction n with
    | zero =>
      intro L hn hle k d u r hu hk hs
      have : L = 8 := by omega
      subst this
      by_cases h9 : e.level = 9
      · cases k with
        | zero => omega
        | succ k =>
          rw [exp_eight]
          refine (Res.bind (h3 h9 k d u r hu (by omega) hs.1) fun _ => Res.sure (P := True) ?_ trivial).and_true
          rw [tok_ne (hs.2.1 (by omega))]; rfl
      · have h8 : e.level = 8 := by omega
        have := h1 (.inr (.inr (.inr (.inr h8))))
        rw [h8] at this
        exact this k d u r hu hk hs
    | succ n ih =>
      intro L hn hle k d u r hu hk hs
      by_cases hlt : L < e.level
      · have hp := ih (L + 1) (by omega) hlt
        cases k with
        | zero => omega
        | succ k =>
          have hp2 := hp k d u r hu (by omega) (hs.le (by omega))
          refine down (by omega) (by have := len_app (hu.trans hT); omega) hp2 ?_ hs
          rw [peek_app (hu.trans hT)]
          exact hx.le hlt
      · have he : e.level = L := by omega
        rcases (show (L = 0 ∨ L = 3 ∨ L = 4 ∨ L = 7 ∨ L = 8) ∨ chl L by unfold chl; omega) with hc | hc
        · have := h1 (by rw [he]; exact hc)
          rw [he] at this
          exact this k d u r hu hk hs
        · have := h2 (by rw [he]; exact hc)
          rw [he] at this
          obtain ⟨k', hk', hr⟩ := this k d u r hu hk (hs.le (by omega))
          refine (Res.trans hr fun _ => Res.sure (P := True) (joins_stop hc ?_ hs) trivial).and_true
          have := len_app (hu.trans hT)
          omega
  refine ⟨fun L h8 hle => par (8 - L) L (by omega) hle, fun L hc hle => ?_, h3⟩
  by_cases hlt : L < e.level
  · intro k d u r hu hk hs
    have h8 : L + 1 ≤ 8 := by unfold chl at hc; omega
    cases k with
    | zero => unfold chl at hc; omega
    | succ k =>
      refine ⟨k, by have := len_app (hu.trans hT); omega, ?_⟩
      rw [exp_joins hc]
      exact (Res.bind (par (8 - (L + 1)) (L + 1) (by omega) hlt k d u r hu (by omega) hs) fun _ => Res.sure (P := True) rfl trivial).and_true
  · have he : e.level = L := by omega
    have := h2 (by rw [he]; exact hc)
    rw [he] at this
    exact this
end MX
end
section
set_option linter.all false
set_option maxRecDepth 10000
namespace MX
open Vbdeaa (Exp Exps Un Bin Tok Text Toks text sg wd unWord binSign binNeeds exp joins atom args peek isTok then_ give opens must joiner oneOf place)
theorem map_cons_inv {u : Toks} {x : Tok} {ts : List Tok} (h : u.map Prod.fst = x :: ts) : ∃ p v, u = (x, p) :: v ∧ v.map Prod.fst = ts := by
  cases u with
  | nil => cases h
  | cons y u =>
    obtain ⟨a, p⟩ := y
    injection h with h1 h2
    subst h1
    exact ⟨p, u, rfl, h2⟩
theorem map_app_inv {u : Toks} {a b : List Tok} (h : u.map Prod.fst = a ++ b) : ∃ v w, u = v ++ w ∧ v.map Prod.fst = a ∧ w.map Prod.fst = b := by
  obtain ⟨v, w, h1, h2, h3⟩ := List.map_eq_append_iff.mp h
  exact ⟨v, w, h1, h2, h3⟩
theorem atom_open {k d p : Nat} (t : Toks) : atom (k + 1) d ((sg "(", p) :: t) = then_ (opens d) (fun e => then_ (exp k e 0) fun a => then_ (must (sg ")")) fun _ => give a) ((sg "(", p) :: t) := by
  rw [Vbdeaa.atom.eq_2]; rfl
theorem atom_brackets {e : Exp} (h : All e) {k d : Nat} {u r : Toks} (hu : u.map Prod.fst = sg "(" :: (T e ++ [sg ")"])) (hk : 12 * u.length < k) : Res (nest e + 1 ≤ d) (atom k d (u ++ r)) (.ok (e, r)) := by
  obtain ⟨p, v, rfl, hv⟩ := map_cons_inv hu
  obtain ⟨w, x, rfl, hw, hx⟩ := map_app_inv hv
  obtain ⟨p2, y, rfl, hy⟩ := map_cons_inv hx
  cases y with
  | cons a b => cases hy
  | nil =>
    cases k with
    | zero => omega
    | succ k =>
      simp only [List.length_cons, List.length_append, List.length_nil] at hk
      rw [List.cons_append, atom_open, List.append_assoc]
      refine (Res.bind (res_opens d _) fun h0 => Res.bind (h.par 0 (by omega) (by omega) k (d - 1) w ((sg ")", p2) :: ([] ++ r)) hw (by omega) (stop_shut 0)) fun _ => Res.bind res_must fun _ => res_give e _).iff ?_
      simp only [and_true, true_and]; omega
theorem par_cl {e : Exp} (h : All e) {L : Nat} (hL : L ≤ 8) {k d : Nat} {u r : Toks} (hu : u.map Prod.fst = cl e.level L (T e)) (hk : 12 * u.length + (10 - L) ≤ k) (hs : Stop L (peek r)) : Res (na e.level L (nest e) ≤ d) (exp k d L (u ++ r)) (.ok (e, r)) := by
  unfold cl at hu
  unfold na
  by_cases c : e.level < L
  · rw [if_pos c] at hu ⊢
    have hp : ∀ n M, M + n = 8 → L ≤ M → ∀ k, 12 * u.length + (10 - M) ≤ k → Res (nest e + 1 ≤ d) (exp k d M (u ++ r)) (.ok (e, r)) := by
      intro n
      induction n with
      | zero =>
        intro M hn hM k hk
        have : M = 8 := by omega
        subst this
        cases k with
        | zero => omega
        | succ k =>
          rw [exp_eight]
          refine (Res.bind (atom_brackets h hu (by omega)) fun _ => Res.sure (P := True) ?_ trivial).and_true
          rw [tok_ne (hs.2.1 (by omega))]; rfl
      | succ n ih =>
        intro M hn hM k hk
        cases k with
        | zero => omega
        | succ k =>
          refine down (by omega) (by have := len_app hu; omega) (ih (M + 1) (by omega) (by omega) k (by omega)) ?_ (hs.le hM)
          rw [peek_app hu]
          exact hdOk.all (by decide) (by decide) (by decide) _
    exact hp (8 - L) L (by omega) (Nat.le_refl _) k hk
  · rw [if_neg c] at hu ⊢
    exact h.par L hL (by omega) k d u r hu hk hs
theorem atom_cl {e : Exp} (h : All e) (h9 : e.level ≤ 9) {k d : Nat} {u r : Toks} (hu : u.map Prod.fst = cl e.level 9 (T e)) (hk : 12 * u.length < k) (hs : peek r ≠ sg "(") : Res (na e.level 9 (nest e) ≤ d) (atom k d (u ++ r)) (.ok (e, r)) := by
  unfold cl at hu
  unfold na
  by_cases c : e.level < 9
  · rw [if_pos c] at hu ⊢
    exact atom_brackets h hu hk
  · rw [if_neg c] at hu ⊢
    exact h.atm (by omega) k d u r hu hk hs
theorem cho_cl {e : Exp} (h : All e) {L : Nat} (hc : chl L) {k d : Nat} {u r : Toks} (hu : u.map Prod.fst = cl e.level L (T e)) (hk : 12 * u.length + (10 - L) ≤ k) (hs : Stop (L + 1) (peek r)) :
    ∃ k', k ≤ k' + u.length ∧ Res (na e.level L (nest e) ≤ d) (exp k d L (u ++ r)) (joins k' d L e r) := by
  by_cases c : e.level < L
  · have e1 : na e.level L (nest e) = na e.level (L + 1) (nest e) := by unfold na; rw [if_pos c, if_pos (by omega)]
    have hu' : u.map Prod.fst = cl e.level (L + 1) (T e) := by rw [hu]; unfold cl; rw [if_pos c, if_pos (by omega)]
    have h8 : L + 1 ≤ 8 := by unfold chl at hc; omega
    cases k with
    | zero => omega
    | succ k =>
      refine ⟨k, ?_, ?_⟩
      · have := hd_cl (L := L) (hd_T e)
        obtain ⟨x, ts, hx, _⟩ := this
        have := len_app (hu.trans hx)
        omega
      · rw [exp_joins hc, e1]
        exact (Res.bind (par_cl h h8 hu' (by omega) hs) fun _ => Res.sure (P := True) rfl trivial).and_true
  · unfold cl at hu
    unfold na
    rw [if_neg c] at hu ⊢
    exact h.cho L hc (by omega) k d u r hu hk hs
theorem cho_bin {e a b : Exp} {L : Nat} {o : Tok} (hc : chl L) (ha : All a) (hb : All b) (hT : T e = cl a.level L (T a) ++ (o :: cl b.level (L + 1) (T b))) (hn : nest e = max (na a.level L (nest a)) (na b.level (L + 1) (nest b)))
    (ho : Stop (L + 1) o) (hj : ∀ k d p t, joins (k + 1) d L a ((o, p) :: t) = then_ (exp k d (L + 1)) (fun b => joins k d L (match e with | .and _ _ => .and a b | .or _ _ => .or a b | .bin o _ _ => .bin o a b | x => x)) t)
    (he : (match e with | .and _ _ => .and a b | .or _ _ => .or a b | .bin o _ _ => .bin o a b | x => x) = e) : Cho e L := by
  intro k d u r hu hk hs
  rw [hT] at hu
  obtain ⟨ua, v, rfl, hua, hv⟩ := map_app_inv hu
  obtain ⟨p, ub, rfl, hub⟩ := map_cons_inv hv
  simp only [List.length_append, List.length_cons] at hk ⊢
  obtain ⟨k1, hk1, hr⟩ := cho_cl ha hc (k := k) (d := d) (u := ua) (r := (o, p) :: (ub ++ r)) hua (by omega) ho
  cases k1 with
  | zero => unfold chl at hc; omega
  | succ k1 =>
    refine ⟨k1, by omega, ?_⟩
    rw [List.append_assoc, List.cons_append]
    rw [hj] at hr
    refine (Res.trans hr fun _ => Res.bind (par_cl hb (by unfold chl at hc; omega) hub (by omega) hs) fun _ => Res.sure (P := True) (by rw [he]) trivial).iff ?_
    rw [hn]
    simp only [and_true, true_and]; omega
theorem level_le (e : Exp) : e.level ≤ 9 := by
  cases e with
  | un o a => cases o <;> exact Nat.le_of_ble_eq_true rfl
  | bin o a b => cases o <;> exact Nat.le_of_ble_eq_true rfl
  | _ => exact Nat.le_of_ble_eq_true rfl
theorem all_nine {e : Exp} (hl : e.level = 9) (h : Atom e) : All e := build (fun z => by omega) (fun z => by unfold chl at z; omega) (fun _ => h) (by omega)
theorem all_par {e : Exp} {L : Nat} (hl : e.level = L) (hL : L = 0 ∨ L = 3 ∨ L = 4 ∨ L = 7 ∨ L = 8) (h : Par e L) : All e := build (fun z => by rw [hl]; exact h) (fun z => by unfold chl at z; omega) (fun _ => by omega) (by omega)
theorem all_cho {e : Exp} {L : Nat} (hl : e.level = L) (hL : chl L) (h : Cho e L) : All e := build (fun z => by unfold chl at hL; omega) (fun z => by rw [hl]; exact h) (fun _ => by unfold chl at hL; omega) (by unfold chl at hL; omega)
theorem all_num (q : Vbdeaa.Q) : All (.num q) := all_nine rfl fun k d u r hu hk hs => by
  obtain ⟨p, v, rfl, hv⟩ := map_cons_inv hu
  cases v with
  | cons a b => cases hv
  | nil =>
    cases k with
    | zero => omega
    | succ k => rw [Vbdeaa.atom.eq_2]; exact Res.sure rfl (Nat.zero_le _)
theorem all_name (n : Text) : All (.name n) := all_nine rfl fun k d u r hu hk hs => by
  obtain ⟨p, v, rfl, hv⟩ := map_cons_inv hu
  cases v with
  | cons a b => cases hv
  | nil =>
    cases k with
    | zero => omega
    | succ k =>
      rw [Vbdeaa.atom.eq_2]
      refine Res.sure ?_ (Nat.zero_le _)
      show (if isTok r (sg "(") = true then _ else _) = _
      rw [tok_ne hs]; rfl
theorem all_neg {a : Exp} (h : All a) : All (.un .neg a) := all_par (L := 7) rfl (by omega) fun k d u r hu hk hs => by
  obtain ⟨p, v, rfl, hv⟩ := map_cons_inv hu
  simp only [List.length_cons] at hk
  cases k with
  | zero => omega
  | succ k =>
    have e1 : exp (k + 1) d 7 ((sg "-", p) :: v ++ r) = then_ (opens d) (fun e => then_ (exp k e 7) fun a => give (Exp.un .neg a)) ((sg "-", p) :: v ++ r) := by rw [Vbdeaa.exp.eq_2]; rfl
    rw [e1]
    refine (Res.bind (res_opens d _) fun h0 => Res.bind (par_cl h (by omega) (k := k) (u := v) (r := r) hv (by omega) hs) fun _ => res_give (Exp.un .neg a) _).iff ?_
    show _ ↔ na a.level 7 (nest a) + 1 ≤ d
    simp only [and_true, true_and]; omega
theorem all_not {a : Exp} (h : All a) : All (.un .not a) := all_par (L := 3) rfl (by omega) fun k d u r hu hk hs => by
  obtain ⟨p, v, rfl, hv⟩ := map_cons_inv hu
  simp only [List.length_cons] at hk
  cases k with
  | zero => omega
  | succ k =>
    have e1 : exp (k + 1) d 3 ((wd "not", p) :: v ++ r) = then_ (opens d) (fun e => then_ (exp k e 3) fun a => give (Exp.un .not a)) ((wd "not", p) :: v ++ r) := by rw [Vbdeaa.exp.eq_2]; rfl
    rw [e1]
    refine (Res.bind (res_opens d _) fun h0 => Res.bind (par_cl h (by omega) (k := k) (u := v) (r := r) hv (by omega) hs) fun _ => res_give (Exp.un .not a) _).iff ?_
    show _ ↔ na a.level 3 (nest a) + 1 ≤ d
    simp only [and_true, true_and]; omega
theorem all_un {o : Un} {a : Exp} (ho : unPlain o = true) (h : All a) : All (.un o a) := by
  have hl : (Exp.un o a).level = 9 := by cases o <;> first | rfl | cases ho
  have hn : nest (.un o a) = nest a + 1 := by cases o <;> first | rfl | cases ho
  refine all_nine hl fun k d u r hu hk hs => ?_
  rw [(shown_un ho a).2] at hu
  obtain ⟨p, v, rfl, hv⟩ := map_cons_inv hu
  obtain ⟨p1, v1, rfl, hv1⟩ := map_cons_inv hv
  obtain ⟨w, x, rfl, hw, hx⟩ := map_app_inv hv1
  obtain ⟨p2, y, rfl, hy⟩ := map_cons_inv hx
  cases y with
  | cons a b => cases hy
  | nil =>
    simp only [List.length_cons, List.length_append, List.length_nil] at hk
    cases k with
    | zero => omega
    | succ k =>
      have e1 : atom (k + 1) d ((wd (unWord o), p) :: (sg "(", p1) :: (w ++ [(sg ")", p2)]) ++ r) = then_ (opens d) (fun e => then_ (exp k e 0) fun a => then_ (must (sg ")")) fun _ => give (Exp.un o a)) ((sg "(", p1) :: (w ++ ((sg ")", p2) :: r))) := by
        rw [Vbdeaa.atom.eq_2]
        have ea : w ++ [(sg ")", p2)] ++ r = w ++ ((sg ")", p2) :: r) := by simp
        rw [List.cons_append, List.cons_append, ea]
        cases o <;> first | rfl | cases ho
      rw [e1, hn]
      refine (Res.bind (res_opens d _) fun h0 => Res.bind (h.par 0 (by omega) (by omega) k (d - 1) w ((sg ")", p2) :: r) hw (by omega) (stop_shut 0)) fun _ => Res.bind res_must fun _ => res_give (Exp.un o a) _).iff ?_
      simp only [and_true, true_and]; omega
theorem all_cond {c a b : Exp} (hc : All c) (ha : All a) (hb : All b) : All (.cond c a b) := all_par (L := 0) rfl (by omega) fun k d u r hu hk hs => by
  obtain ⟨p, v, rfl, hv⟩ := map_cons_inv hu
  obtain ⟨uc, v1, rfl, huc, hv1⟩ := map_app_inv hv
  obtain ⟨p1, v2, rfl, hv2⟩ := map_cons_inv hv1
  obtain ⟨ua, v3, rfl, hua, hv3⟩ := map_app_inv hv2
  obtain ⟨p2, ub, rfl, hub⟩ := map_cons_inv hv3
  simp only [List.length_cons, List.length_append] at hk
  cases k with
  | zero => omega
  | succ k =>
    have ea : (wd "if", p) :: (uc ++ ((wd "then", p1) :: (ua ++ ((wd "else", p2) :: ub)))) ++ r = (wd "if", p) :: (uc ++ ((wd "then", p1) :: (ua ++ ((wd "else", p2) :: (ub ++ r))))) := by simp
    have e1 : ∀ t : Toks, exp (k + 1) d 0 ((wd "if", p) :: t) = then_ (opens d) (fun e => then_ (exp k e 0) fun c => then_ (must (wd "then")) fun _ => then_ (exp k e 0) fun a => then_ (must (wd "else")) fun _ => then_ (exp k e 0) fun b => give (Exp.cond c a b)) ((wd "if", p) :: t) := fun t => by rw [Vbdeaa.exp.eq_2]; rfl
    rw [ea, e1]
    refine (Res.bind (res_opens d _) fun h0 => Res.bind (hc.par 0 (by omega) (by omega) k (d - 1) uc ((wd "then", p1) :: (ua ++ ((wd "else", p2) :: (ub ++ r)))) huc (by omega) (stop_then 0)) fun _ => Res.bind res_must fun _ =>
      Res.bind (ha.par 0 (by omega) (by omega) k (d - 1) ua ((wd "else", p2) :: (ub ++ r)) hua (by omega) (stop_else 0)) fun _ => Res.bind res_must fun _ => Res.bind (hb.par 0 (by omega) (by omega) k (d - 1) ub r hub (by omega) hs) fun _ => res_give (Exp.cond c a b) _).iff ?_
    show _ ↔ max (nest c) (max (nest a) (nest b)) + 1 ≤ d
    simp only [and_true, true_and]; omega
theorem all_and {a b : Exp} (ha : All a) (hb : All b) : All (.and a b) := all_cho (L := 2) rfl (.inr (.inl rfl)) (cho_bin (o := wd "and") (.inr (.inl rfl)) ha hb rfl rfl (by refine ⟨by decide, fun _ => by decide, fun _ => by decide, fun _ => by decide, fun _ => by decide, fun z => by omega, fun z => by omega⟩) (fun k d p t => by rw [Vbdeaa.joins.eq_2]; rfl) rfl)
theorem all_or {a b : Exp} (ha : All a) (hb : All b) : All (.or a b) := all_cho (L := 1) rfl (.inl rfl) (cho_bin (o := wd "or") (.inl rfl) ha hb rfl rfl (by refine ⟨by decide, fun _ => by decide, fun _ => by decide, fun _ => by decide, fun _ => by decide, fun z => by decide, fun z => by omega⟩) (fun k d p t => by rw [Vbdeaa.joins.eq_2]; rfl) rfl)
theorem all_pow {a b : Exp} (ha : All a) (hb : All b) : All (.bin .pow a b) := all_par (L := 8) rfl (by omega) fun k d u r hu hk hs => by
  have hu : u.map Prod.fst = cl a.level 9 (T a) ++ (sg "^" :: cl b.level 7 (T b)) := hu
  obtain ⟨ua, v, rfl, hua, hv⟩ := map_app_inv hu
  obtain ⟨p, ub, rfl, hub⟩ := map_cons_inv hv
  simp only [List.length_append, List.length_cons] at hk
  cases k with
  | zero => omega
  | succ k =>
    rw [exp_eight, List.append_assoc, List.cons_append]
    have e1 : ∀ (x : Exp) (t : Toks), (if isTok ((sg "^", p) :: t) (sg "^") = true then (then_ (opens d) fun e => then_ (exp k e 7) fun b => give (Exp.bin .pow x b)) ((sg "^", p) :: t) else .ok (x, ((sg "^", p) :: t))) = (then_ (opens d) fun e => then_ (exp k e 7) fun b => give (Exp.bin .pow x b)) ((sg "^", p) :: t) := fun x t => rfl
    have hs7 : Stop 7 (peek r) := ⟨hs.1, fun _ => hs.2.1 (by omega), fun z => by omega, fun z => by omega, fun z => by omega, fun z => by omega, fun z => by omega⟩
    refine (Res.bind (atom_cl ha (level_le a) (k := k) (d := d) (u := ua) (r := (sg "^", p) :: (ub ++ r)) hua (by omega) (show sg "^" ≠ sg "(" by decide)) (Q := 0 < d ∧ na b.level 7 (nest b) ≤ d - 1 ∧ True) fun _ => ?_).iff ?_
    · show Res _ (if isTok ((sg "^", p) :: (ub ++ r)) (sg "^") = true then _ else _) _
      rw [e1]
      exact Res.bind (res_opens d _) fun h0 => Res.bind (par_cl hb (by omega) (k := k) (u := ub) (r := r) hub (by omega) hs7) fun _ => res_give (Exp.bin .pow a b) _
    · show _ ↔ max (na a.level 9 (nest a)) (na b.level 7 (nest b) + 1) ≤ d
      simp only [and_true, true_and]; omega
theorem all_cmp {o : Bin} {a b : Exp} (ho : joiner 4 (binTok o) = some o ∧ binNeeds o = (5, 5) ∧ (o ≠ .pow) ∧ (∀ a b, (Exp.bin o a b).level = 4) ∧ joiner 5 (binTok o) = none ∧ joiner 6 (binTok o) = none ∧ binTok o ≠ sg "(" ∧ binTok o ≠ sg "^") (ha : All a) (hb : All b) : All (.bin o a b) := by
  obtain ⟨h1, h2, h3, h4, h5, h6, h7, h8⟩ := ho
  refine all_par (L := 4) (h4 a b) (by omega) fun k d u r hu hk hs => ?_
  have hu : u.map Prod.fst = cl a.level (binNeeds o).1 (T a) ++ (binTok o :: cl b.level (binNeeds o).2 (T b)) := hu
  rw [h2] at hu
  obtain ⟨ua, v, rfl, hua, hv⟩ := map_app_inv hu
  obtain ⟨p, ub, rfl, hub⟩ := map_cons_inv hv
  simp only [List.length_append, List.length_cons] at hk
  cases k with
  | zero => omega
  | succ k =>
    rw [exp_four, List.append_assoc, List.cons_append]
    have hua : ua.map Prod.fst = cl a.level 5 (T a) := hua
    have hub : ub.map Prod.fst = cl b.level 5 (T b) := hub
    refine (Res.bind (par_cl ha (L := 5) (by omega) (k := k) (d := d) (u := ua) (r := (binTok o, p) :: (ub ++ r)) hua (by omega) ⟨h7, fun _ => h8, fun _ => h6, fun _ => h5, fun z => by omega, fun z => by omega, fun z => by omega⟩) (Q := na b.level 5 (nest b) ≤ d ∧ True) fun _ => ?_).iff ?_
    · have e1 : peek ((binTok o, p) :: (ub ++ r)) = binTok o := rfl
      simp only [e1, h1, List.drop_succ_cons, List.drop_zero]
      exact Res.bind (par_cl hb (L := 5) (by omega) (k := k) (u := ub) (r := r) hub (by omega) (hs.le (by omega))) fun _ => res_give (Exp.bin o a b) _
    · have : nest (.bin o a b) = max (na a.level (binNeeds o).1 (nest a)) (na b.level (binNeeds o).2 (nest b) + (if o = .pow then 1 else 0)) := rfl
      rw [this, h2, if_neg h3]
      show _ ↔ max (na a.level 5 (nest a)) (na b.level 5 (nest b) + 0) ≤ d
      simp only [and_true, true_and]; omega
theorem all_sum {o : Bin} {a b : Exp} {L : Nat} (hL : chl L) (ho : joiner L (binTok o) = some o ∧ binNeeds o = (L, L + 1) ∧ (o ≠ .pow) ∧ (∀ a b, (Exp.bin o a b).level = L) ∧ Stop (L + 1) (binTok o)) (h3 : 3 ≤ L) (ha : All a) (hb : All b) : All (.bin o a b) := by
  obtain ⟨h1, h2, hp, h4, h5⟩ := ho
  refine all_cho (h4 a b) hL (cho_bin (o := binTok o) hL ha hb ?_ ?_ h5 (fun k d p t => ?_) rfl)
  · show cl a.level (binNeeds o).1 (T a) ++ (binTok o :: cl b.level (binNeeds o).2 (T b)) = _
    rw [h2]
  · show max (na a.level (binNeeds o).1 (nest a)) (na b.level (binNeeds o).2 (nest b) + (if o = .pow then 1 else 0)) = _
    rw [h2, if_neg hp]; rfl
  · rw [Vbdeaa.joins.eq_2]
    have e1 : peek ((binTok o, p) :: t) = binTok o := rfl
    simp only [e1, h1, List.drop_succ_cons, List.drop_zero]
    rw [if_neg (by omega), if_neg (by omega)]
theorem all_bin (o : Bin) {a b : Exp} (ha : All a) (hb : All b) : All (.bin o a b) := by
  cases o with
  | pow => exact all_pow ha hb
  | eq => exact all_cmp ⟨by decide, by decide, by decide, fun _ _ => rfl, by decide, by decide, by decide, by decide⟩ ha hb
  | ne => exact all_cmp ⟨by decide, by decide, by decide, fun _ _ => rfl, by decide, by decide, by decide, by decide⟩ ha hb
  | lt => exact all_cmp ⟨by decide, by decide, by decide, fun _ _ => rfl, by decide, by decide, by decide, by decide⟩ ha hb
  | le => exact all_cmp ⟨by decide, by decide, by decide, fun _ _ => rfl, by decide, by decide, by decide, by decide⟩ ha hb
  | gt => exact all_cmp ⟨by decide, by decide, by decide, fun _ _ => rfl, by decide, by decide, by decide, by decide⟩ ha hb
  | ge => exact all_cmp ⟨by decide, by decide, by decide, fun _ _ => rfl, by decide, by decide, by decide, by decide⟩ ha hb
  | add => exact all_sum (L := 5) (.inr (.inr (.inl rfl))) ⟨by decide, by decide, by decide, fun _ _ => rfl, by decide, fun _ => by decide, fun _ => by decide, fun z => by omega, fun z => by omega, fun z => by omega, fun z => by omega⟩ (by omega) ha hb
  | sub => exact all_sum (L := 5) (.inr (.inr (.inl rfl))) ⟨by decide, by decide, by decide, fun _ _ => rfl, by decide, fun _ => by decide, fun _ => by decide, fun z => by omega, fun z => by omega, fun z => by omega, fun z => by omega⟩ (by omega) ha hb
  | mul => exact all_sum (L := 6) (.inr (.inr (.inr rfl))) ⟨by decide, by decide, by decide, fun _ _ => rfl, by decide, fun _ => by decide, fun z => by omega, fun z => by omega, fun z => by omega, fun z => by omega, fun z => by omega⟩ (by omega) ha hb
  | div => exact all_sum (L := 6) (.inr (.inr (.inr rfl))) ⟨by decide, by decide, by decide, fun _ _ => rfl, by decide, fun _ => by decide, fun z => by omega, fun z => by omega, fun z => by omega, fun z => by omega, fun z => by omega⟩ (by omega) ha hb
  | quo => exact all_sum (L := 6) (.inr (.inr (.inr rfl))) ⟨by decide, by decide, by decide, fun _ _ => rfl, by decide, fun _ => by decide, fun z => by omega, fun z => by omega, fun z => by omega, fun z => by omega, fun z => by omega⟩ (by omega) ha hb
  | rem => exact all_sum (L := 6) (.inr (.inr (.inr rfl))) ⟨by decide, by decide, by decide, fun _ _ => rfl, by decide, fun _ => by decide, fun z => by omega, fun z => by omega, fun z => by omega, fun z => by omega, fun z => by omega⟩ (by omega) ha hb
def AllA : Exps → Prop
  | .nil => True
  | .cons e l => All e ∧ AllA l
theorem args_all : ∀ (l : Exps), l ≠ .nil → AllA l → ∀ (k d : Nat) (u r : Toks), u.map Prod.fst = TA l ++ [sg ")"] → 12 * u.length + 11 ≤ k → Res (nestA l ≤ d) (args k d (u ++ r)) (.ok (l, r))
  | .nil, hne, _, _, _, _, _, _, _ => absurd rfl hne
  | .cons e .nil, _, h, k, d, u, r, hu, hk => by
    obtain ⟨w, x, rfl, hw, hx⟩ := map_app_inv hu
    obtain ⟨p2, y, rfl, hy⟩ := map_cons_inv hx
    cases y with
    | cons a b => cases hy
    | nil =>
      simp only [List.length_cons, List.length_append, List.length_nil] at hk
      cases k with
      | zero => omega
      | succ k =>
        rw [Vbdeaa.args.eq_2, List.append_assoc]
        refine (Res.bind (h.1.par 0 (by omega) (by omega) k d w ((sg ")", p2) :: ([] ++ r)) hw (by omega) (stop_shut 0)) (Q := True ∧ True) fun _ => ?_).iff ?_
        · show Res _ (if isTok ((sg ")", p2) :: r) (sg ",") = true then _ else _) _
          have : isTok ((sg ")", p2) :: r) (sg ",") = false := rfl
          rw [this]
          show Res _ (then_ (must (sg ")")) (fun _ => give (Exps.cons e .nil)) ((sg ")", p2) :: r)) _
          exact Res.bind res_must fun _ => res_give (Exps.cons e .nil) _
        · show _ ↔ max (nest e) 0 ≤ d
          simp only [and_true, true_and]; omega
  | .cons e (.cons f l), _, h, k, d, u, r, hu, hk => by
    have hu : u.map Prod.fst = T e ++ (sg "," :: TA (.cons f l)) ++ [sg ")"] := hu
    rw [List.append_assoc, List.cons_append] at hu
    obtain ⟨w, x, rfl, hw, hx⟩ := map_app_inv hu
    obtain ⟨p2, y, rfl, hy⟩ := map_cons_inv hx
    simp only [List.length_cons, List.length_append, List.length_nil] at hk
    cases k with
    | zero => omega
    | succ k =>
      rw [Vbdeaa.args.eq_2, List.append_assoc]
      refine (Res.bind (h.1.par 0 (by omega) (by omega) k d w ((sg ",", p2) :: (y ++ r)) hw (by omega) (stop_comma 0)) (Q := nestA (.cons f l) ≤ d ∧ True) fun _ => ?_).iff ?_
      · show Res _ (if isTok ((sg ",", p2) :: (y ++ r)) (sg ",") = true then _ else _) _
        have : isTok ((sg ",", p2) :: (y ++ r)) (sg ",") = true := rfl
        rw [this, if_pos rfl]
        exact Res.bind (args_all (.cons f l) (by simp) h.2 k d y r hy (by omega)) fun _ => res_give (Exps.cons e (.cons f l)) _
      · show _ ↔ max (nest e) (nestA (.cons f l)) ≤ d
        simp only [and_true, true_and]; omega
theorem all_use {n : Text} {l : Exps} (hl : l ≠ .nil) (h : AllA l) : All (.use n l) := all_nine rfl fun k d u r hu hk hs => by
  obtain ⟨p, v, rfl, hv⟩ := map_cons_inv hu
  obtain ⟨p1, v1, rfl, hv1⟩ := map_cons_inv hv
  simp only [List.length_cons] at hk
  cases k with
  | zero => omega
  | succ k =>
    have e1 : atom (k + 1) d ((.name n, p) :: (sg "(", p1) :: v1 ++ r) = then_ (opens d) (fun e => then_ (args k e) fun l => give (Exp.use n l)) ((sg "(", p1) :: (v1 ++ r)) := by rw [Vbdeaa.atom.eq_2]; rfl
    rw [e1]
    refine (Res.bind (res_opens d _) fun h0 => Res.bind (args_all l hl h k (d - 1) v1 r hv1 (by omega)) fun _ => res_give (Exp.use n l) _).iff ?_
    show _ ↔ nestA l + 1 ≤ d
    simp only [and_true, true_and]; omega
theorem all_best {g : Bool} {l : Exps} (hl : l ≠ .nil) (h : AllA l) : All (.best g l) := all_nine rfl fun k d u r hu hk hs => by
  obtain ⟨p, v, rfl, hv⟩ := map_cons_inv hu
  obtain ⟨p1, v1, rfl, hv1⟩ := map_cons_inv hv
  simp only [List.length_cons] at hk
  cases k with
  | zero => omega
  | succ k =>
    have e1 : atom (k + 1) d ((wd (if g = true then "max" else "min"), p) :: (sg "(", p1) :: v1 ++ r) = then_ (opens d) (fun e => then_ (args k e) fun l => give (Exp.best g l)) ((sg "(", p1) :: (v1 ++ r)) := by
      rw [Vbdeaa.atom.eq_2]
      cases g <;> rfl
    rw [e1]
    refine (Res.bind (res_opens d _) fun h0 => Res.bind (args_all l hl h k (d - 1) v1 r hv1 (by omega)) fun _ => res_give (Exp.best g l) _).iff ?_
    show _ ↔ nestA l + 1 ≤ d
    simp only [and_true, true_and]; omega
mutual
theorem all_exp : ∀ (e : Exp), Fit e → All e
  | .num q, _ => all_num q
  | .name n, _ => all_name n
  | .un o a, h => by
    have ih := all_exp a h
    by_cases hp : unPlain o = true
    · exact all_un hp ih
    · cases o with
      | neg => exact all_neg ih
      | not => exact all_not ih
      | _ => exact absurd rfl hp
  | .bin o a b, h => all_bin o (all_exp a h.1) (all_exp b h.2)
  | .and a b, h => all_and (all_exp a h.1) (all_exp b h.2)
  | .or a b, h => all_or (all_exp a h.1) (all_exp b h.2)
  | .cond c a b, h => all_cond (all_exp c h.1) (all_exp a h.2.1) (all_exp b h.2.2)
  | .best g l, h => all_best h.2 (all_exps l h.1)
  | .use n l, h => all_use h.2.2 (all_exps l h.2.1)
theorem all_exps : ∀ (l : Exps), FitA l → AllA l
  | .nil, _ => trivial
  | .cons e l, h => ⟨all_exp e h.1, all_exps l h.2⟩
end
theorem read_shown {e : Exp} (h : Fit e) : Res (nest e ≤ 32) (Vbdeaa.readExp e.shown) (.ok e) := by
  have ht := toks_shown h
  obtain ⟨u, x, hux, hu, hx⟩ := map_app_inv ht
  obtain ⟨p, y, rfl, hy⟩ := map_cons_inv hx
  cases y with
  | cons a b => cases hy
  | nil =>
    have := (all_exp e h).par 0 (by omega) (by omega) (Vbdeaa.enough (u ++ [(Tok.eof, p)])) 32 u [(Tok.eof, p)] hu (by unfold Vbdeaa.enough; simp only [List.length_append, List.length_cons, List.length_nil]; omega) (stop_eof 0)
    unfold Vbdeaa.readExp
    rw [hux]
    refine ⟨fun hn => ?_, fun hn => ?_⟩
    · have e1 := this.1 hn
      show (match exp (Vbdeaa.enough (u ++ [(Tok.eof, p)])) 32 0 (u ++ [(Tok.eof, p)]) with | .error p => _ | .ok (e, r) => _) = _
      rw [e1]; rfl
    · obtain ⟨l, e1⟩ := this.2 hn
      refine ⟨l, ?_⟩
      show (match exp (Vbdeaa.enough (u ++ [(Tok.eof, p)])) 32 0 (u ++ [(Tok.eof, p)]) with | .error p => _ | .ok (e, r) => _) = _
      rw [e1]
theorem readable_iff {e : Exp} (h : Fit e) : Vbdeam.readable e = true ↔ e.height ≤ 32 ∧ nest e ≤ 32 := by
  unfold Vbdeam.readable
  rw [Bool.and_eq_true, decide_eq_true_eq]
  refine and_congr Iff.rfl ?_
  by_cases hn : nest e ≤ 32
  · rw [(read_shown h).1 hn]
    simp only [hn]
  · obtain ⟨p, e1⟩ := (read_shown h).2 hn
    rw [e1]
    simp [hn]
end MX
end
section
set_option linter.all false
set_option maxRecDepth 10000
namespace MX
open Vbdeaa (Exp Exps Un Bin Ins Code Text)
open Vbdeam (plain orParts andParts ifParts size sizeAll joinBest argName)
def NameOk (t : Text) : Prop := Vbdeaa.isName t = true ∧ ∀ c ∈ t, 0 ≤ c
def nameOkB (t : Text) : Bool := Vbdeaa.isName t && t.all fun c => decide (0 ≤ c)
theorem nameOk_of {t : Text} (h : nameOkB t = true) : NameOk t := by
  unfold nameOkB at h
  rw [Bool.and_eq_true] at h
  exact ⟨h.1, fun c hc => of_decide_eq_true (List.all_eq_true.mp h.2 c hc)⟩
theorem args_ok : ((List.range 8).all fun i => nameOkB (argName i)) = true := by decide +kernel
theorem tabs_ok : ((List.range 64).all fun i => nameOkB (Vbdeam.nameOf 10 i) && nameOkB (Vbdeam.nameOf 11 i)) = true := by decide +kernel
theorem arg_ok {i : Nat} (h : i < 8) : NameOk (argName i) := nameOk_of (List.all_eq_true.mp args_ok i (List.mem_range.mpr h))
theorem tab_ok {i : Nat} (h : i < 64) : NameOk (Vbdeam.nameOf 10 i) ∧ NameOk (Vbdeam.nameOf 11 i) := by
  have := List.all_eq_true.mp tabs_ok i (List.mem_range.mpr h)
  rw [Bool.and_eq_true] at this
  exact ⟨nameOk_of this.1, nameOk_of this.2⟩
theorem exps_fit {l : List Exp} (h : ∀ e ∈ l, Fit e) : FitA (Vbdeam.exps l) := by
  induction l with
  | nil => exact trivial
  | cons x r ih => exact ⟨h x List.mem_cons_self, ih fun e he => h e (List.mem_cons_of_mem _ he)⟩
theorem join_fit {g : Bool} {x y : Exp} (hx : Fit x) (hy : Fit y) : Fit (joinBest g x y) := by
  unfold Vbdeam.joinBest
  split
  · rename_i h l
    split
    · exact ⟨⟨hx, hy.1⟩, by simp⟩
    · exact ⟨⟨hx, hy, trivial⟩, by simp⟩
  · exact ⟨⟨hx, hy, trivial⟩, by simp⟩
theorem plain_fit {n : Nat} (hn : n ≤ 8) (hr : ∀ k t, Vbdeam.readName k = some t → NameOk t) {i : Ins} {st t : List Exp} (hs : ∀ e ∈ st, Fit e) (h : plain n i st = some t) : ∀ e ∈ t, Fit e := by
  have tl : ∀ {x : Exp} {r : List Exp}, Fit x → (∀ e ∈ r, Fit e) → ∀ e ∈ x :: r, Fit e := fun hx hr e he => by
    rcases List.mem_cons.mp he with rfl | he
    · exact hx
    · exact hr e he
  cases i with
  | push q =>
    unfold Vbdeam.plain at h; simp only at h
    split at h
    · next hq => cases h; exact tl hq hs
    · cases h
  | arg k =>
    unfold Vbdeam.plain at h; simp only at h
    split at h
    · next hq => cases h; exact tl (arg_ok (by omega)) hs
    · cases h
  | var k =>
    unfold Vbdeam.plain at h; simp only at h
    obtain ⟨x, hx, e⟩ := Option.map_eq_some_iff.mp h
    subst e
    exact tl (hr k x hx) hs
  | un o =>
    cases st with
    | nil => cases h
    | cons x st => cases h; exact tl (hs x List.mem_cons_self) fun e he => hs e (List.mem_cons_of_mem _ he)
  | bin o =>
    match st, h, hs with
    | y :: x :: st, h, hs => cases h; exact tl ⟨hs x (List.mem_cons_of_mem _ List.mem_cons_self), hs y List.mem_cons_self⟩ fun e he => hs e (List.mem_cons_of_mem _ (List.mem_cons_of_mem _ he))
  | table k =>
    cases st with
    | nil => cases h
    | cons x st =>
      unfold Vbdeam.plain at h; simp only at h
      split at h
      · next hk => cases h; exact tl ⟨(tab_ok hk).1, ⟨hs x List.mem_cons_self, trivial⟩, by simp⟩ fun e he => hs e (List.mem_cons_of_mem _ he)
      · cases h
  | call f m =>
    unfold Vbdeam.plain at h; simp only at h
    split at h
    · cases h
    · next hc =>
      split at h
      · cases h; exact tl (tab_ok (by omega)).2 hs
      · next hm =>
        cases h
        refine tl ⟨(tab_ok (by omega)).2, exps_fit fun e he => hs e (List.mem_of_mem_take (List.mem_reverse.mp he)), ?_⟩ fun e he => hs e (List.mem_of_mem_drop he)
        intro z
        have hlen : (st.take m).reverse.length = m := by rw [List.length_reverse, List.length_take]; omega
        cases hq : (st.take m).reverse with
        | nil => rw [hq] at hlen; exact hm hlen.symm
        | cons a b => rw [hq] at z; cases z
  | best g =>
    match st, h, hs with
    | y :: x :: st, h, hs => cases h; exact tl (join_fit (hs x (List.mem_cons_of_mem _ List.mem_cons_self)) (hs y List.mem_cons_self)) fun e he => hs e (List.mem_cons_of_mem _ (List.mem_cons_of_mem _ he))
  | zero k => rw [plain_zero] at h; cases h
  | jump k => rw [plain_jump] at h; cases h
  | truth => rw [plain_truth] at h; cases h
theorem run_fit {n : Nat} (hn : n ≤ 8) (hr : ∀ k t, Vbdeam.readName k = some t → NameOk t) {c : Code} {st : List Exp} {e : Exp} (h : Run n c st e) : (∀ x ∈ st, Fit x) → Fit e := by
  have tl : ∀ {x : Exp} {r : List Exp}, Fit x → (∀ e ∈ r, Fit e) → ∀ e ∈ x :: r, Fit e := fun hx hr e he => by
    rcases List.mem_cons.mp he with rfl | he
    · exact hx
    · exact hr e he
  have nn : ∀ x ∈ ([] : List Exp), Fit x := fun x hx => by cases hx
  induction h with
  | done e => exact fun hs => hs e List.mem_cons_self
  | plain hp _ ih => exact fun hs => ih (plain_fit hn hr hs hp)
  | or_ _ _ _ ih1 ih2 => exact fun hs => ih2 (tl ⟨hs _ List.mem_cons_self, ih1 nn⟩ fun e he => hs e (List.mem_cons_of_mem _ he))
  | and_ _ _ _ ih1 ih2 => exact fun hs => ih2 (tl ⟨hs _ List.mem_cons_self, ih1 nn⟩ fun e he => hs e (List.mem_cons_of_mem _ he))
  | if_ _ _ _ _ ih1 ih2 ih3 => exact fun hs => ih3 (tl ⟨hs _ List.mem_cons_self, ih1 nn, ih2 nn⟩ fun e he => hs e (List.mem_cons_of_mem _ he))
theorem decimal_len {n : Nat} (h : n ≤ Vbdeaa.B) : (Vbdeaa.decimal n).length ≤ 19 := by
  rw [decimal_eq, List.length_map]
  refine (Nat.length_toDigits_le_iff (by decide) (by decide)).mpr (Nat.lt_of_le_of_lt h (by decide))
theorem closed_len (a b : Nat) (t : Text) : (Vbdeaa.closed a b t).length ≤ t.length + 2 := by
  unfold Vbdeaa.closed
  split
  · simp only [List.length_cons, List.length_append, List.length_nil]; omega
  · omega
theorem sign_len (o : Bin) : (Vbdeaa.text (Vbdeaa.binSign o)).length ≤ 2 := by cases o <;> decide
mutual
theorem shown_len : ∀ (e : Exp), Fit e → e.shown.length + 2 ≤ 42 * size e
  | .num q, h => by
    have hp := h.1
    unfold Vbdeaa.proper Vbdeaa.small at hp
    simp only [Bool.and_eq_true, decide_eq_true_eq] at hp
    have h1 := decimal_len hp.1.1
    have h2 := decimal_len hp.1.2.2
    show (Vbdeaa.shownQ q).length + 2 ≤ 42 * 1
    unfold Vbdeaa.shownQ
    rw [List.length_append]
    split
    · simp only [List.length_nil]; omega
    · simp only [List.length_cons]; omega
  | .name n, h => by
    have hp := h.1
    unfold Vbdeaa.isName at hp
    simp only [Bool.and_eq_true, decide_eq_true_eq] at hp
    have := hp.2.2.1
    show n.length + 2 ≤ 42 * 1
    unfold Vbdeaa.LONGNAME at this
    omega
  | .un o a, h => by
    have ih := shown_len a h
    show _ ≤ 42 * (size a + 1)
    have c7 := closed_len a.level 7 a.shown
    have c3 := closed_len a.level 3 a.shown
    cases o with
    | neg => show (45 :: Vbdeaa.closed a.level 7 a.shown).length + 2 ≤ _; simp only [List.length_cons]; omega
    | not => show ([110, 111, 116, 32] ++ Vbdeaa.closed a.level 3 a.shown).length + 2 ≤ _; simp only [List.length_append, List.length_cons, List.length_nil]; omega
    | floor => show ([102, 108, 111, 111, 114] ++ (40 :: (a.shown ++ [41]))).length + 2 ≤ _; simp only [List.length_append, List.length_cons, List.length_nil]; omega
    | ceil => show ([99, 101, 105, 108] ++ (40 :: (a.shown ++ [41]))).length + 2 ≤ _; simp only [List.length_append, List.length_cons, List.length_nil]; omega
    | abs => show ([97, 98, 115] ++ (40 :: (a.shown ++ [41]))).length + 2 ≤ _; simp only [List.length_append, List.length_cons, List.length_nil]; omega
    | sign => show ([115, 105, 103, 110] ++ (40 :: (a.shown ++ [41]))).length + 2 ≤ _; simp only [List.length_append, List.length_cons, List.length_nil]; omega
    | num => show ([110, 117, 109] ++ (40 :: (a.shown ++ [41]))).length + 2 ≤ _; simp only [List.length_append, List.length_cons, List.length_nil]; omega
    | den => show ([100, 101, 110] ++ (40 :: (a.shown ++ [41]))).length + 2 ≤ _; simp only [List.length_append, List.length_cons, List.length_nil]; omega
  | .bin o a b, h => by
    have ih1 := shown_len a h.1
    have ih2 := shown_len b h.2
    have c1 := closed_len a.level (Vbdeaa.binNeeds o).1 a.shown
    have c2 := closed_len b.level (Vbdeaa.binNeeds o).2 b.shown
    have c3 := sign_len o
    show (Vbdeaa.closed a.level (Vbdeaa.binNeeds o).1 a.shown ++ (32 :: (Vbdeaa.text (Vbdeaa.binSign o) ++ (32 :: Vbdeaa.closed b.level (Vbdeaa.binNeeds o).2 b.shown)))).length + 2 ≤ 42 * (size a + size b + 1)
    simp only [List.length_append, List.length_cons]
    omega
  | .and a b, h => by
    have ih1 := shown_len a h.1
    have ih2 := shown_len b h.2
    have c1 := closed_len a.level 2 a.shown
    have c2 := closed_len b.level 3 b.shown
    show (Vbdeaa.closed a.level 2 a.shown ++ ([32, 97, 110, 100, 32] ++ Vbdeaa.closed b.level 3 b.shown)).length + 2 ≤ 42 * (size a + size b + 1)
    simp only [List.length_append, List.length_cons, List.length_nil]
    omega
  | .or a b, h => by
    have ih1 := shown_len a h.1
    have ih2 := shown_len b h.2
    have c1 := closed_len a.level 1 a.shown
    have c2 := closed_len b.level 2 b.shown
    show (Vbdeaa.closed a.level 1 a.shown ++ ([32, 111, 114, 32] ++ Vbdeaa.closed b.level 2 b.shown)).length + 2 ≤ 42 * (size a + size b + 1)
    simp only [List.length_append, List.length_cons, List.length_nil]
    omega
  | .cond c a b, h => by
    have ih0 := shown_len c h.1
    have ih1 := shown_len a h.2.1
    have ih2 := shown_len b h.2.2
    show ([105, 102, 32] ++ (c.shown ++ ([32, 116, 104, 101, 110, 32] ++ (a.shown ++ ([32, 101, 108, 115, 101, 32] ++ b.shown))))).length + 2 ≤ 42 * (size c + size a + size b + 1)
    simp only [List.length_append, List.length_cons, List.length_nil]
    omega
  | .best g l, h => by
    have ih := shownA_len l h.1
    show (Vbdeaa.text (if g = true then "max(" else "min(") ++ (l.shown ++ [41])).length + 2 ≤ 42 * (sizeAll l + 1)
    have : (Vbdeaa.text (if g = true then "max(" else "min(")).length = 4 := by cases g <;> rfl
    simp only [List.length_append, List.length_cons, List.length_nil, this]
    omega
  | .use n l, h => by
    have ih := shownA_len l h.2.1
    have hp := h.1.1
    unfold Vbdeaa.isName at hp
    simp only [Bool.and_eq_true, decide_eq_true_eq] at hp
    have := hp.2.2.1
    show (n ++ (40 :: (l.shown ++ [41]))).length + 2 ≤ 42 * (sizeAll l + 1)
    simp only [List.length_append, List.length_cons, List.length_nil]
    unfold Vbdeaa.LONGNAME at this
    omega
theorem shownA_len : ∀ (l : Exps), FitA l → l.shown.length ≤ 42 * sizeAll l
  | .nil, h => Nat.le_refl _
  | .cons e .nil, h => by
    have := shown_len e h.1
    show e.shown.length ≤ 42 * (size e + 0)
    omega
  | .cons e (.cons f l), h => by
    have h1 := shown_len e h.1
    have h2 := shownA_len (.cons f l) h.2
    show (e.shown ++ ([44, 32] ++ Exps.shown (.cons f l))).length ≤ 42 * (size e + sizeAll (.cons f l))
    simp only [List.length_append, List.length_cons, List.length_nil]
    omega
end
end MX
end
section
set_option Elab.async false
set_option maxRecDepth 100000
set_option maxHeartbeats 4000000
set_option linter.all false
namespace SB
open PySem PySem.Spec PyProof.Rows L2 XL
open Vbdeaa (Text Exp Exps Un Bin Ins)
structure CS (K : PySem.W.Frag) (mg : Str → Option Value) : Prop where
  MP : GC K mg "MOST_PARAMETERS" (.i 8)
  LC : GC K mg "LONGEST_CODE" (.i 500)
  HI : GC K mg "HIGHEST" (.i 32)
  DE : GC K mg "DEEPEST" (.i 32)
  len : mg "len" = none
def deepOk (e : Exp) : Prop := e.height ≤ 32 ∧ nestI e ≤ 32
def spPar (Cw : Addr) : Sp := fun vs H Q E => ∃ n : Int, vs = [.int n] ∧ ((0 ≤ n ∧ n ≤ 8) → Q .non H) ∧ (¬ (0 ≤ n ∧ n ≤ 8) → RaiseC Cw (-1) H E)
def spLen (K : PySem.W.Frag) (Cl : Addr) : Sp := fun vs H Q E => ∃ (l : Addr) (xs : List V), vs = [.ref l] ∧ SqL K H l xs ∧ (xs.length ≤ 500 → Q .non H) ∧ (¬ xs.length ≤ 500 → RaiseC Cl (-2) H E)
def spDepth (C Cd : Addr) : Sp := fun vs H Q E => ∃ (a : Addr) (e : Exp), vs = [.ref a] ∧ NodeAt C H e a ∧ (deepOk e → ∀ H', Same H H' → Q .non H') ∧ (¬ deepOk e → RaiseC Cd (-4) H E)
def spTaken (K : PySem.W.Frag) (C Cl Cn Cd : Addr) : Sp := fun vs H Q E => ∃ (l : Addr) (n : Nat) (code : List Int), vs = [.int n, .ref l] ∧ SqL K H l (vI code) ∧ n ≤ 8 ∧
  (¬ code.length ≤ 500 → RaiseC Cl (-2) H E) ∧ (code.length ≤ 500 → Vbdeam.expOf n code = none → RaiseC Cn (-3) H E) ∧
  (∀ e, code.length ≤ 500 → Vbdeam.expOf n code = some e → (¬ deepOk e → RaiseC Cd (-4) H E) ∧ (deepOk e → ∀ a H', Same H H' → NodeAt C H' e a → Q (.ref a) H'))
def spDone : Sp := fun vs H Q _ => ∃ (l : Addr) (xs : List V), vs = [.ref l] ∧ H l = some (.lst xs) ∧ xs.length ≤ 1000000 ∧ NewL H Q (.int 0 :: .int (xs.length : Nat) :: xs)
abbrev sPar : Stmt := top 70
abbrev sLen : Stmt := top 71
abbrev sDepth : Stmt := top 72
abbrev sTaken : Stmt := top 73
abbrev sDone : Stmt := top 74
section
variable {P : Program} {w : World} {K : PySem.W.Frag} {mg : Str → Option Value} {base : Heap}
theorem scPar : FnScope ["n"] ["n"] (defScope sPar) := ⟨rfl, rfl, rfl, by decide +kernel, rfl, by decide +kernel, by decide +kernel⟩
theorem ok_par {f Cw fI : Addr} {fd dI : FuncData} (F : Fn K mg "check_parameters" sPar f fd ["n"]) (X : XC P w K mg base "WrongParameterCount" Cw fI dI (-1)) (S : CS K mg) : FnOk P w K mg base (CXr P w) 4 f fd ["n"] (spPar Cw) := by
  refine okX F.F scPar (fun vs H Q E h => ?_) (fun cdv A outer s H vs Q E hr h => ?_)
  · obtain ⟨_, rfl, _⟩ := h
    rfl
  · obtain ⟨n, rfl, k, kr⟩ := h
    refine ⟨_, pss_one (ps_if (pt_not (pt_chain op_le op_le pe_int (pv 0) (pe_gi rfl S.MP))) (pss_one (ps_raise X.made X.cls X.ok hr rfl X.m X.b rfl throws_of)) pss_nil), ?_⟩
    refine ⟨_, rfl, 0, n, rfl, rfl, _, rfl, ite2 (fun h1 => ?_) fun h1 => ?_⟩
    · have h1 : 0 ≤ n := of_decide_eq_true h1
      refine ⟨n, 8, rfl, rfl, _, rfl, ?_⟩
      by_cases h2 : n ≤ 8
      · rw [decide_eq_true h2]
        exact iteF (k ⟨h1, h2⟩)
      · rw [decide_eq_false h2]
        exact iteT (kr fun z => h2 z.2).go
    · refine ⟨_, rfl, iteT ?_⟩
      exact (kr fun z => h1 (decide_eq_true z.1)).go
theorem scLen : FnScope ["numbers"] ["numbers"] (defScope sLen) := ⟨rfl, rfl, rfl, by decide +kernel, rfl, by decide +kernel, by decide +kernel⟩
theorem ok_len {f Cl fI : Addr} {fd dI : FuncData} (F : Fn K mg "check_length" sLen f fd ["numbers"]) (X : XC P w K mg base "CodeTooLong" Cl fI dI (-2)) (S : CS K mg) : FnOk P w K mg base (CXr P w) 4 f fd ["numbers"] (spLen K Cl) := by
  refine okX F.F scLen (fun vs H Q E h => ?_) (fun cdv A outer s H vs Q E hr h => ?_)
  · obtain ⟨_, _, rfl, _⟩ := h
    rfl
  · obtain ⟨l, xs, rfl, hl, k, kr⟩ := h
    refine ⟨_, pss_one (ps_if (pt_cmpR op_gt (pe_callB call_len_seq (by rfl) S.len (by decide +kernel) (pa_cons (pv 0) pa_nil)) (pe_gi rfl S.LC) (nomark _)) (pss_one (ps_raise X.made X.cls X.ok hr rfl X.m X.b rfl throws_of)) pss_nil), ?_⟩
    refine ⟨_, rfl, l, xs, rfl, .inl hl, _, _, rfl, rfl, _, rfl, ite2 (fun h1 => ?_) fun h1 => ?_⟩
    · have h1 : (500 : Int) < xs.length := of_decide_eq_true h1
      exact (kr (by omega)).go
    · have h1 : ¬ (500 : Int) < xs.length := fun z => h1 (decide_eq_true z)
      exact k (by omega)
theorem scDepth : FnScope ["node"] ["node"] (defScope sDepth) := ⟨rfl, rfl, rfl, by decide +kernel, rfl, by decide +kernel, by decide +kernel⟩
theorem ok_depth {f C Cd fI fN : Addr} {fd dI dN : FuncData} (F : Fn K mg "check_depth" sDepth f fd ["node"]) (FN : Fn K mg "nesting_of" sNest fN dN ["node"]) (GN : FnOk P w K mg base (CXr P w) 35 fN dN ["node"] (spNest C 32)) (N : NodeC K C) (X : XC P w K mg base "CodeTooDeep" Cd fI dI (-4)) (S : CS K mg) : FnOk P w K mg base (CXr P w) 36 f fd ["node"] (spDepth C Cd) := by
  refine okX F.F scDepth (fun vs H Q E h => ?_) (fun cdv A outer s H vs Q E hr h => ?_)
  · obtain ⟨_, _, rfl, _⟩ := h
    rfl
  · obtain ⟨a, e, rfl, hn, k, kr⟩ := h
    obtain ⟨dx, D, l, as, h1, hD, hl, hp⟩ := node_of hn
    have hr3 : Room 3 _ := hr.mono (by omega)
    refine ⟨_, pss_one (ps_if (PW.pt (pw_or (pt_cmpR op_gt (pe_fld (pv 0) rfl) (pe_gi rfl S.HI) (nomark _)) (pw_or1 (pt_cmpR op_gt (pe_call GN hr rfl FN.m FN.F.kp FN.b .nil passes (pa_cons (pv 0) pa_nil)) (pe_gi rfl S.DE) (nomark _))))) (pss_one (ps_raise X.made X.cls X.ok hr3 rfl X.m X.b rfl throws_of)) pss_nil), ?_⟩
    refine ⟨_, rfl, a, C, dx, _, _, rfl, h1, N.cl, N.nH, rfl, _, _, rfl, rfl, _, rfl, ite2 (fun h2 => ?_) fun h2 => ?_⟩
    · have h2 : (32 : Int) < e.height := of_decide_eq_true h2
      exact iteT (kr fun z => by have := z.1; omega).go
    · have h2 : ¬ (32 : Int) < e.height := fun z => h2 (decide_eq_true z)
      refine ⟨_, rfl, a, e, rfl, hn, by omega, fun H' s' => ⟨_, _, rfl, rfl, _, rfl, ite2 (fun h3 => ?_) fun h3 => ?_⟩⟩
      · have h3 : (32 : Int) < nestI e := of_decide_eq_true h3
        exact ((kr fun z => by have := z.2; omega).mono s').go
      · have h3 : ¬ (32 : Int) < nestI e := fun z => h3 (decide_eq_true z)
        exact k ⟨by omega, by omega⟩ H' s'
theorem scTaken : FnScope ["n", "numbers", "node"] ["n", "numbers"] (defScope sTaken) := ⟨rfl, rfl, rfl, by decide +kernel, rfl, by decide +kernel, by decide +kernel⟩
theorem ok_taken {f C Cl Cn Cd f1 f2 f3 : Addr} {fd d1 d2 d3 : FuncData} (F : Fn K mg "taken_code" sTaken f fd ["n", "numbers"]) (F1 : Fn K mg "check_length" sLen f1 d1 ["numbers"]) (G1 : FnOk P w K mg base (CXr P w) 4 f1 d1 ["numbers"] (spLen K Cl)) (F2 : Fn K mg "simple_expression_of" sSimple f2 d2 ["code", "n"]) (G2 : FnOk P w K mg base (CXr P w) 8 f2 d2 ["code", "n"] (spSimple K C Cn)) (F3 : Fn K mg "check_depth" sDepth f3 d3 ["node"]) (G3 : FnOk P w K mg base (CXr P w) 36 f3 d3 ["node"] (spDepth C Cd)) :
    FnOk P w K mg base (CXr P w) 37 f fd ["n", "numbers"] (spTaken K C Cl Cn Cd) := by
  refine okX F.F scTaken (fun vs H Q E h => ?_) (fun cdv A outer s H vs Q E hr h => ?_)
  · obtain ⟨_, _, _, rfl, _⟩ := h
    rfl
  · obtain ⟨l, n, code, rfl, hl, hn8, kl, kn, kk⟩ := h
    have hr4 : Room 4 _ := hr.mono (by omega)
    have hr8 : Room 8 _ := hr.mono (by omega)
    refine ⟨_, pss_cons (ps_expr (pe_call G1 hr4 rfl F1.m F1.F.kp F1.b .nil passes (pa_cons (pv 1) pa_nil)))
      (pss_cons (ps_set (i := 2) scTaken.nd rfl (Or.inl rfl) (pe_call G2 hr8 rfl F2.m F2.F.kp F2.b .nil passes (pa_cons (pv 1) (pa_cons (pv 0) pa_nil))))
      (pss_cons (ps_expr (pe_call G3 hr rfl F3.m F3.F.kp F3.b .nil passes (pa_cons (pv 2) pa_nil))) (pss_one (ps_ret (pv 2))))), ?_⟩
    refine ⟨_, rfl, l, vI code, rfl, hl, fun hle => ?_, fun hle => kl (by rw [vI_length] at hle; exact hle)⟩
    rw [vI_length] at hle
    refine ⟨_, rfl, _, rfl, l, n, code, rfl, hl, hle, hn8, fun e he a H1 s1 hna => ?_, fun he => kn hle he⟩
    obtain ⟨kd, kq⟩ := kk e hle he
    refine ⟨_, rfl, a, e, rfl, hna, fun hd H2 s2 => ?_, fun hd => (kd hd).mono s1⟩
    exact ⟨_, rfl, kq hd a H2 (s1.trans s2) (hna.same s2)⟩
theorem scDone : FnScope ["row"] ["row"] (defScope sDone) := ⟨rfl, rfl, rfl, by decide +kernel, rfl, by decide +kernel, by decide +kernel⟩
theorem ok_done {f : Addr} {fd : FuncData} (F : Fn K mg "done" sDone f fd ["row"]) (S : CS K mg) : FnOk P w K mg base (CXr P w) 1 f fd ["row"] spDone := by
  refine okX F.F scDone (fun vs H Q E h => ?_) (fun cdv A outer s H vs Q E hr h => ?_)
  · obtain ⟨_, _, rfl, _⟩ := h
    rfl
  · obtain ⟨l, xs, rfl, hl, hlen, k⟩ := h
    refine ⟨_, pss_one (ps_ret (pe_op op_cat (pe_lst (pa_cons pe_int (pa_cons (pe_callB call_len_seq (by rfl) S.len (by decide +kernel) (pa_cons (pv 0) pa_nil)) pa_nil))) (pv 0))), ?_⟩
    refine ⟨_, rfl, l, xs, rfl, .inl (SqL.of hl), (by show 2 ≤ sizeLine; decide), fun r hr0 => ?_⟩
    have ne : l ≠ r := fun z => by rw [z, hr0] at hl; cases hl
    refine ⟨_, rfl, r, l, _, xs, rfl, rfl, upd_same, (by rw [upd_ne ne]; exact hl), ?_, fun r2 hr2 => ?_⟩
    · show _ ≤ sizeLine
      have : sizeLine = 16777216 := rfl
      simp only [List.length_cons, List.length_nil]
      omega
    · exact k r2 _ (by by_cases z : r2 = r; · rw [z, upd_same] at hr2; cases hr2
                       · rw [upd_ne z] at hr2; exact hr2) ((Same.upd hr0).trans (Same.upd hr2)) upd_same
end
end SB
end
section
set_option Elab.async false
set_option maxRecDepth 100000
set_option maxHeartbeats 4000000
set_option linter.all false
namespace SB
open PySem PySem.Spec PyProof.Rows L2 XL
open Vbdeaa (Text Exp Exps Un Bin Ins)
theorem step_eq {e p : Exp} {i : Nat} {acc : Int} {ar need : Nat} (ha : tabN AROUNDL 1 e.level i = (ar : Nat)) (hp : tabN PLACEL 0 e.level i = (need : Nat)) {m : Nat} (hm : nestI p = (m : Nat)) : nestStep e nestI acc (p, i) = max acc ((ar + MX.na p.level need m : Nat) : Int) := by
  unfold nestStep wantsB MX.na
  simp only
  rw [ha, hp, hm]
  by_cases c : p.level < need
  · rw [if_pos c, decide_eq_true (by omega), if_pos rfl]
    split <;> omega
  · have e1 : decide ((p.level : Int) < (need : Int)) = false := decide_eq_false (by omega)
    simp only [e1, Bool.false_eq_true, if_false, if_neg c]
    split <;> omega
theorem na_zero (lv m : Nat) : MX.na lv 0 m = m := by unfold MX.na; rw [if_neg (by omega)]
mutual
theorem nestI_nest : ∀ (e : Exp), MX.Fit e → nestI e = (MX.nest e : Nat)
  | .num q, _ => by rw [nestI_eq]; rfl
  | .name n, _ => by rw [nestI_eq]; rfl
  | .un o a, h => by
    have ih := nestI_nest a h
    rw [nestI_eq]
    show nestStep (.un o a) nestI 0 (a, 0) = _
    cases o with
    | neg => rw [step_eq (ar := 1) (need := 7) rfl rfl ih]; show _ = ((MX.na a.level 7 (MX.nest a) + 1 : Nat) : Int); omega
    | not => rw [step_eq (ar := 1) (need := 3) rfl rfl ih]; show _ = ((MX.na a.level 3 (MX.nest a) + 1 : Nat) : Int); omega
    | _ => rw [step_eq (ar := 1) (need := 0) rfl rfl ih, na_zero]; show _ = ((MX.nest a + 1 : Nat) : Int); omega
  | .bin o a b, h => by
    have ih1 := nestI_nest a h.1
    have ih2 := nestI_nest b h.2
    rw [nestI_eq]
    show nestStep (.bin o a b) nestI (nestStep (.bin o a b) nestI 0 (a, 0)) (b, 1) = _
    cases o with
    | pow =>
      rw [step_eq (ar := 1) (need := 7) rfl rfl ih2, step_eq (ar := 0) (need := 9) rfl rfl ih1]
      show _ = ((max (MX.na a.level 9 (MX.nest a)) (MX.na b.level 7 (MX.nest b) + 1) : Nat) : Int)
      omega
    | add =>
      rw [step_eq (ar := 0) (need := 6) rfl rfl ih2, step_eq (ar := 0) (need := 5) rfl rfl ih1]
      show _ = ((max (MX.na a.level 5 (MX.nest a)) (MX.na b.level 6 (MX.nest b) + 0) : Nat) : Int)
      omega
    | sub =>
      rw [step_eq (ar := 0) (need := 6) rfl rfl ih2, step_eq (ar := 0) (need := 5) rfl rfl ih1]
      show _ = ((max (MX.na a.level 5 (MX.nest a)) (MX.na b.level 6 (MX.nest b) + 0) : Nat) : Int)
      omega
    | mul =>
      rw [step_eq (ar := 0) (need := 7) rfl rfl ih2, step_eq (ar := 0) (need := 6) rfl rfl ih1]
      show _ = ((max (MX.na a.level 6 (MX.nest a)) (MX.na b.level 7 (MX.nest b) + 0) : Nat) : Int)
      omega
    | div =>
      rw [step_eq (ar := 0) (need := 7) rfl rfl ih2, step_eq (ar := 0) (need := 6) rfl rfl ih1]
      show _ = ((max (MX.na a.level 6 (MX.nest a)) (MX.na b.level 7 (MX.nest b) + 0) : Nat) : Int)
      omega
    | quo =>
      rw [step_eq (ar := 0) (need := 7) rfl rfl ih2, step_eq (ar := 0) (need := 6) rfl rfl ih1]
      show _ = ((max (MX.na a.level 6 (MX.nest a)) (MX.na b.level 7 (MX.nest b) + 0) : Nat) : Int)
      omega
    | rem =>
      rw [step_eq (ar := 0) (need := 7) rfl rfl ih2, step_eq (ar := 0) (need := 6) rfl rfl ih1]
      show _ = ((max (MX.na a.level 6 (MX.nest a)) (MX.na b.level 7 (MX.nest b) + 0) : Nat) : Int)
      omega
    | _ =>
      rw [step_eq (ar := 0) (need := 5) rfl rfl ih2, step_eq (ar := 0) (need := 5) rfl rfl ih1]
      show _ = ((max (MX.na a.level 5 (MX.nest a)) (MX.na b.level 5 (MX.nest b) + 0) : Nat) : Int)
      omega
  | .and a b, h => by
    have ih1 := nestI_nest a h.1
    have ih2 := nestI_nest b h.2
    rw [nestI_eq]
    show nestStep (.and a b) nestI (nestStep (.and a b) nestI 0 (a, 0)) (b, 1) = _
    rw [step_eq (ar := 0) (need := 3) rfl rfl ih2, step_eq (ar := 0) (need := 2) rfl rfl ih1]
    show _ = ((max (MX.na a.level 2 (MX.nest a)) (MX.na b.level 3 (MX.nest b)) : Nat) : Int)
    omega
  | .or a b, h => by
    have ih1 := nestI_nest a h.1
    have ih2 := nestI_nest b h.2
    rw [nestI_eq]
    show nestStep (.or a b) nestI (nestStep (.or a b) nestI 0 (a, 0)) (b, 1) = _
    rw [step_eq (ar := 0) (need := 2) rfl rfl ih2, step_eq (ar := 0) (need := 1) rfl rfl ih1]
    show _ = ((max (MX.na a.level 1 (MX.nest a)) (MX.na b.level 2 (MX.nest b)) : Nat) : Int)
    omega
  | .cond c a b, h => by
    have ih0 := nestI_nest c h.1
    have ih1 := nestI_nest a h.2.1
    have ih2 := nestI_nest b h.2.2
    rw [nestI_eq]
    show nestStep (.cond c a b) nestI (nestStep (.cond c a b) nestI (nestStep (.cond c a b) nestI 0 (c, 0)) (a, 1)) (b, 2) = _
    rw [step_eq (ar := 1) (need := 0) rfl rfl ih2, step_eq (ar := 1) (need := 0) rfl rfl ih1, step_eq (ar := 1) (need := 0) rfl rfl ih0, na_zero, na_zero, na_zero]
    show _ = ((max (MX.nest c) (max (MX.nest a) (MX.nest b)) + 1 : Nat) : Int)
    omega
  | .best g l, h => by
    rw [nestI_eq]
    show ((exL l).zipIdx 0).foldl (nestStep (.best g l) nestI) 0 = ((MX.nestA l + 1 : Nat) : Int)
    rw [nestA_I l h.1 h.2 (.best g l) rfl 0 0 (by omega)]
    omega
  | .use n l, h => by
    rw [nestI_eq]
    show ((exL l).zipIdx 0).foldl (nestStep (.use n l) nestI) 0 = ((MX.nestA l + 1 : Nat) : Int)
    rw [nestA_I l h.2.1 h.2.2 (.use n l) rfl 0 0 (by omega)]
    omega
theorem nestA_I : ∀ (l : Exps), MX.FitA l → l ≠ .nil → ∀ (e : Exp), e.level = 9 → ∀ (i : Nat) (acc : Int), 0 ≤ acc → ((exL l).zipIdx i).foldl (nestStep e nestI) acc = max acc ((MX.nestA l + 1 : Nat) : Int)
  | .nil, _, hne, e, he, i, acc, h0 => absurd rfl hne
  | .cons x .nil, h, _, e, he, i, acc, h0 => by
    have ih1 := nestI_nest x h.1
    show nestStep e nestI acc (x, i) = max acc ((max (MX.nest x) 0 + 1 : Nat) : Int)
    rw [step_eq (ar := 1) (need := 0) (by rw [he]; rfl) (by rw [he]; rfl) ih1, na_zero]
    omega
  | .cons x (.cons y s), h, _, e, he, i, acc, h0 => by
    have ih1 := nestI_nest x h.1
    show ((exL (.cons y s)).zipIdx (i + 1)).foldl (nestStep e nestI) (nestStep e nestI acc (x, i)) = max acc ((max (MX.nest x) (MX.nestA (.cons y s)) + 1 : Nat) : Int)
    rw [step_eq (ar := 1) (need := 0) (by rw [he]; rfl) (by rw [he]; rfl) ih1, na_zero, nestA_I (.cons y s) h.2 (by simp) e he (i + 1) _ (by omega)]
    omega
end
mutual
theorem good_fit : ∀ (e : Exp), MX.Fit e → GoodE e
  | .num q, h => .mk (by
      have hp := h.1
      unfold Vbdeaa.proper Vbdeaa.small at hp
      simp only [Bool.and_eq_true, decide_eq_true_eq] at hp
      have h0 := h.2
      have h1 := hp.1.1
      have h2 := hp.1.2
      unfold Vbdeaa.B at h1 h2
      exact ⟨h0, by omega, h2.1, by omega⟩) fun k hk => by cases hk
  | .name n, h => .mk (by
      have hp := h.1
      unfold Vbdeaa.isName at hp
      simp only [Bool.and_eq_true, decide_eq_true_eq] at hp
      exact ⟨hp.2.2.1, h.2⟩) fun k hk => by cases hk
  | .un o a, h => .mk trivial fun k hk => by
      have ha := good_fit a h
      have e : k = a := List.mem_singleton.mp hk
      rw [e]
      exact ha
  | .bin o a b, h => .mk trivial fun k hk => by
      have ha := good_fit a h.1
      have hb := good_fit b h.2
      rcases List.mem_cons.mp hk with rfl | hk
      · exact ha
      · obtain rfl := List.mem_singleton.mp hk
        exact hb
  | .and a b, h => .mk trivial fun k hk => by
      have ha := good_fit a h.1
      have hb := good_fit b h.2
      rcases List.mem_cons.mp hk with rfl | hk
      · exact ha
      · obtain rfl := List.mem_singleton.mp hk
        exact hb
  | .or a b, h => .mk trivial fun k hk => by
      have ha := good_fit a h.1
      have hb := good_fit b h.2
      rcases List.mem_cons.mp hk with rfl | hk
      · exact ha
      · obtain rfl := List.mem_singleton.mp hk
        exact hb
  | .cond c a b, h => .mk trivial fun k hk => by
      have hc := good_fit c h.1
      have ha := good_fit a h.2.1
      have hb := good_fit b h.2.2
      rcases List.mem_cons.mp hk with rfl | hk
      · exact hc
      · rcases List.mem_cons.mp hk with rfl | hk
        · exact ha
        · obtain rfl := List.mem_singleton.mp hk
          exact hb
  | .best g l, h => .mk (by
      show exL l ≠ []
      cases l with
      | nil => exact absurd rfl h.2
      | cons x r => simp [exL]) fun k hk => good_fits l h.1 k hk
  | .use n l, h => .mk (by
      have hp := h.1.1
      unfold Vbdeaa.isName at hp
      simp only [Bool.and_eq_true, decide_eq_true_eq] at hp
      refine ⟨⟨hp.2.2.1, h.1.2⟩, ?_⟩
      cases l with
      | nil => exact absurd rfl h.2.2
      | cons x r => simp [exL]) fun k hk => good_fits l h.2.1 k hk
theorem good_fits : ∀ (l : Exps), MX.FitA l → ∀ k ∈ exL l, GoodE k
  | .nil, _, k, hk => by cases hk
  | .cons x r, h, k, hk => by
    have hx := good_fit x h.1
    have hr := good_fits r h.2
    rcases List.mem_cons.mp hk with rfl | hk
    · exact hx
    · exact hr k hk
end
theorem expOf_fit {n : Nat} {code : List Int} {e : Exp} (hn : n ≤ 8) (h : Vbdeam.expOf n code = some e) : MX.Fit e ∧ Vbdeam.size e ≤ code.length := by
  unfold Vbdeam.expOf at h
  obtain ⟨c, hc, ht⟩ := Option.bind_eq_some_iff.mp h
  have hr := MX.tree_run.mp ht
  refine ⟨MX.run_fit hn (fun k t hk => (name_read hk).2) hr (fun x hx => by cases hx), Nat.le_trans (MX.run_size hr) ?_⟩
  exact cut_len _ (Nat.le_refl _) ⟨hc, MX.run_ok hr⟩
theorem deep_read {e : Exp} (h : MX.Fit e) : Vbdeam.readable e = true ↔ deepOk e := by
  rw [MX.readable_iff h]
  unfold deepOk
  rw [nestI_nest e h]
  refine and_congr Iff.rfl ?_
  omega
theorem tree_one {n : Int} {code : List Int} (h : ¬ (0 ≤ n ∧ n ≤ 8)) : PyVbdeam.tree n code = [-1] := by
  show Vbdeam.given (if Vbdeam.within n 0 8 = false then .error (-1) else _) = _
  have : Vbdeam.within n 0 8 = false := by
    unfold Vbdeam.within
    by_cases h0 : 0 ≤ n
    · rw [decide_eq_false (show ¬ n ≤ 8 by omega), Bool.and_false]
    · rw [decide_eq_false h0, Bool.false_and]
  rw [if_pos this]
  rfl
theorem tree_in {n : Nat} {code : List Int} (h : n ≤ 8) : PyVbdeam.tree n code = Vbdeam.given ((Vbdeam.taken n code).map fun e => Vbdeam.row e.shown) := by
  show Vbdeam.given (if Vbdeam.within n 0 8 = false then .error (-1) else _) = _
  have : Vbdeam.within n 0 8 = true := by
    unfold Vbdeam.within
    rw [decide_eq_true (show (0 : Int) ≤ n by omega), decide_eq_true (show (n : Int) ≤ 8 by omega)]
    rfl
  rw [if_neg (by rw [this]; simp)]
  rfl
theorem tree_two {n : Nat} {code : List Int} (h : n ≤ 8) (hl : ¬ code.length ≤ 500) : PyVbdeam.tree n code = [-2] := by
  rw [tree_in h]
  unfold Vbdeam.taken
  rw [if_pos (show Vbdeam.LONGCODE < code.length by unfold Vbdeam.LONGCODE; omega)]
  rfl
theorem tree_three {n : Nat} {code : List Int} (h : n ≤ 8) (hl : code.length ≤ 500) (he : Vbdeam.expOf n code = none) : PyVbdeam.tree n code = [-3] := by
  rw [tree_in h]
  unfold Vbdeam.taken
  rw [if_neg (show ¬ Vbdeam.LONGCODE < code.length by unfold Vbdeam.LONGCODE; omega), he]
  rfl
theorem tree_four {n : Nat} {code : List Int} {e : Exp} (h : n ≤ 8) (hl : code.length ≤ 500) (he : Vbdeam.expOf n code = some e) (hd : ¬ deepOk e) : PyVbdeam.tree n code = [-4] := by
  rw [tree_in h]
  unfold Vbdeam.taken
  rw [if_neg (show ¬ Vbdeam.LONGCODE < code.length by unfold Vbdeam.LONGCODE; omega), he]
  simp only
  rw [if_neg (fun z => hd ((deep_read (expOf_fit h he).1).mp z))]
  rfl
theorem tree_five {n : Nat} {code : List Int} {e : Exp} (h : n ≤ 8) (hl : code.length ≤ 500) (he : Vbdeam.expOf n code = some e) (hd : deepOk e) : PyVbdeam.tree n code = 0 :: (e.shown.length : Int) :: e.shown := by
  rw [tree_in h]
  unfold Vbdeam.taken
  rw [if_neg (show ¬ Vbdeam.LONGCODE < code.length by unfold Vbdeam.LONGCODE; omega), he]
  simp only
  rw [if_pos ((deep_read (expOf_fit h he).1).mpr hd)]
  rfl
def spTree (K : PySem.W.Frag) : Sp := fun vs H Q _ => ∃ (n : Int) (l : Addr) (code : List Int), vs = [.int n, .ref l] ∧ SqL K H l (vI code) ∧ NewL H Q (vI (PyVbdeam.tree n code))
abbrev sTree : Stmt := top 75
theorem same_none {H H' : Hp} {l : Addr} (s : Same H H') (h : H' l = none) : H l = none := by
  cases q : H l with
  | none => rfl
  | some o => rw [s _ _ q] at h; cases h
section
variable {P : Program} {w : World} {K : PySem.W.Frag} {mg : Str → Option Value} {base : Heap}
theorem scTree : FnScope ["n", "code", "refusal"] ["n", "code"] (defScope sTree) := ⟨rfl, rfl, rfl, by decide +kernel, rfl, by decide +kernel, by decide +kernel⟩
theorem caught {Rc C : Addr} {n : Int} {H : Hp} {D : Ends} {xs : List V} (hc : XCls K C) (hx : PySem.W.exmOne K (.ref C) (.ref Rc) = some true) (hk : NewL H D.rt xs) (he : xs = [.int n]) : RaiseC C n H (xCaught K Rc D) := by
  subst he
  intro e d H' s h1 h2
  exact ⟨C, d, n, rfl, rfl, hc, hx, h2, fun l hl => hk l _ (same_none s hl) (s.trans (Same.upd hl)) upd_same⟩
theorem ok_tree {f C Rc Cw Cl Cn Cd f1 f2 f3 f4 : Addr} {fd d1 d2 d3 d4 : FuncData} (F : Fn K mg "tree" sTree f fd ["n", "code"]) (hR : mg "Refusal" = some (.ref Rc))
    (F1 : Fn K mg "check_parameters" sPar f1 d1 ["n"]) (G1 : FnOk P w K mg base (CXr P w) 4 f1 d1 ["n"] (spPar Cw)) (F2 : Fn K mg "taken_code" sTaken f2 d2 ["n", "numbers"]) (G2 : FnOk P w K mg base (CXr P w) 37 f2 d2 ["n", "numbers"] (spTaken K C Cl Cn Cd))
    (F3 : Fn K mg "printed" sPrinted f3 d3 ["node"]) (G3 : FnOk P w K mg base (CXr P w) 66 f3 d3 ["node"] (spPrinted C 32)) (F4 : Fn K mg "done" sDone f4 d4 ["row"]) (G4 : FnOk P w K mg base (CXr P w) 1 f4 d4 ["row"] spDone)
    (cw : XCls K Cw) (cl : XCls K Cl) (cn : XCls K Cn) (cd : XCls K Cd) (xw : PySem.W.exmOne K (.ref Cw) (.ref Rc) = some true) (xl : PySem.W.exmOne K (.ref Cl) (.ref Rc) = some true) (xn : PySem.W.exmOne K (.ref Cn) (.ref Rc) = some true) (xd : PySem.W.exmOne K (.ref Cd) (.ref Rc) = some true) :
    FnOk P w K mg base (CXr P w) 67 f fd ["n", "code"] (spTree K) := by
  refine okX F.F scTree (fun vs H Q E h => ?_) (fun cdv A outer s H vs Q E hr h => ?_)
  · obtain ⟨_, _, _, rfl, _⟩ := h
    rfl
  · obtain ⟨n, l, code, rfl, hl, k⟩ := h
    have hr1 : Room 1 _ := hr.mono (by omega)
    have hr4 : Room 4 _ := hr.mono (by omega)
    have hr37 : Room 37 _ := hr.mono (by omega)
    refine ⟨_, pss_one (ps_tryRef (Rc := Rc) (i := 2) rfl scTree.nd rfl rfl rfl hR rfl rfl (fun pn xe E th => pss_cons (ps_expr (pe_call G1 hr4 rfl F1.m F1.F.kp F1.b .nil th.passes (pa_cons (pv 0) pa_nil)))
      (pss_one (ps_ret (pe_call G4 hr1 rfl F4.m F4.F.kp F4.b .nil th.passes (pa_cons (pe_call G3 hr rfl F3.m F3.F.kp F3.b .nil th.passes (pa_cons (pe_call G2 hr37 rfl F2.m F2.F.kp F2.b .nil th.passes (pa_cons (pv 0) (pa_cons (pv 1) pa_nil))) pa_nil)) pa_nil)))))), ?_⟩
    refine ⟨_, rfl, n, rfl, fun hn => ?_, fun hn => caught cw xw k (by rw [tree_one hn]; rfl)⟩
    obtain ⟨m, rfl⟩ : ∃ m : Nat, n = m := ⟨n.toNat, by omega⟩
    have hm : m ≤ 8 := by omega
    refine ⟨_, rfl, _, rfl, l, m, code, rfl, hl, hm, fun hc => caught cl xl k (by rw [tree_two hm hc]; rfl), fun hc he => caught cn xn k (by rw [tree_three hm hc he]; rfl), fun e hc he => ⟨fun hd => caught cd xd k (by rw [tree_four hm hc he hd]; rfl), fun hd a H1 s1 hna => ?_⟩⟩
    obtain ⟨hf, hsz⟩ := expOf_fit hm he
    have hsl := MX.shown_len e hf
    refine ⟨a, e, rfl, hna, good_fit e hf, hd.1, by omega, fun l2 H2 hl2 s2 hl22 => ?_⟩
    refine ⟨l2, _, rfl, hl22, by rw [vI_length]; omega, fun l3 H3 hl3 s3 hl33 => ?_⟩
    refine k l3 H3 (same_none (s1.trans s2) hl3) (s1.trans (s2.trans s3)) ?_
    rw [hl33, tree_five hm hc he hd, vI_length]
    rfl
end
end SB
end
section
set_option Elab.async false
set_option maxRecDepth 100000
set_option maxHeartbeats 4000000
set_option linter.all false
namespace SB
open PySem PySem.Spec PyProof.Rows L2 XL
open Vbdeaa (Text Exp Exps Un Bin Ins)
abbrev fdOf (x qual : Str) (st : Stmt) (kV doc pm : Value) (an : Option Addr) (cdv ct : Value) : FuncData := PySem.W.fnOf x qual (defArgs st) (defBody st) (defScope st) .none kV doc pm an cdv ct
def BindsF (x qual : Str) (st : Stmt) (ps : List Str) : Prop := ∀ (kV doc pm : Value) (an : Option Addr) (cdv ct : Value) (us : List Value), us.length = ps.length → bindArgs (PySem.W.fnOf x qual (defArgs st) (defBody st) (defScope st) .none kV doc pm an cdv ct) ⟨us, []⟩ = pure (ps.zip us)
section
variable {K : PySem.W.Frag} {h : Heap} {mg : Str → Option Value} {x qual : Str} {st : Stmt} {ps : List Str} {f C : Addr} {oc kV doc pm cdv ct : Value} {od an : Option Addr} {osl : Array (Option Value)}
theorem fnx (hb : BindsF x x st ps) (X : K.In h) (G : h.Ns mainGlobals mg) (a : PySem.W.nsIn K mainGlobals x = some (some (.ref f))) (l : K.lookup f = some ⟨oc, od, .func (fdOf x x st kV doc pm an cdv ct), osl⟩) (c : PySem.W.codeIn K cdv x = true) (k : PySem.W.keepIn K (.ref f) = true) : ∃ f fd, Fn K mg x st f fd ps :=
  have F := fun_mk l c k
  ⟨f, _, F, PySem.W.mg_of X G a, F.binds hb⟩
theorem fmx (hb : BindsF x qual st ps) (a : PySem.W.findIn K (.ref C) x = some (some (.ref f))) (i : PySem.W.isFn K (.ref f) = true) (l : K.lookup f = some ⟨oc, od, .func (fdOf x qual st kV doc pm an cdv ct), osl⟩) (c : PySem.W.codeIn K cdv qual = true) (k : PySem.W.keepIn K (.ref f) = true) : ∃ f fd, Fm K C x qual st f fd ps :=
  have F := fun_mk l c k
  ⟨f, _, F, F.binds hb, a, i, k⟩
structure ClsX (K : PySem.W.Frag) (mg : Str → Option Value) (x qual : Str) (st : Stmt) (ps : List Str) (C f : Addr) (fd : FuncData) : Prop where
  cl : Cls K C
  m : mg x = some (.ref C)
  mk_ : Mk K C f
  F : Fun K "__init__" qual st f fd
  b : Binds K fd ps []
theorem clx (hb : BindsF "__init__" qual st ps) (X : K.In h) (G : h.Ns mainGlobals mg) (aC : PySem.W.nsIn K mainGlobals x = some (some (.ref C))) (pg : PySem.W.plainGet K C Str.empty = true) (hd : PySem.W.hasDictIn K C = true) (po : PySem.W.plainOver K C = true) (sa : PySem.W.findIn K (.ref C) "__setattr__" = some (some (.builtin "object.__setattr__")))
    (mk : PySem.W.makesIn K C = true) (kc : PySem.W.keepIn K (.ref C) = true) (a : PySem.W.findIn K (.ref C) "__init__" = some (some (.ref f))) (i : PySem.W.isFn K (.ref f) = true) (l : K.lookup f = some ⟨oc, od, .func (fdOf "__init__" qual st kV doc pm an cdv ct), osl⟩) (c : PySem.W.codeIn K cdv qual = true) (k : PySem.W.keepIn K (.ref f) = true) :
    ∃ f fd, ClsX K mg x qual st ps C f fd :=
  have F := fun_mk l c k
  ⟨f, _, ⟨pg, hd, po, sa⟩, PySem.W.mg_of X G aC, ⟨mk, a, i, kc⟩, F, F.binds hb⟩
theorem xcx {nm q : Str} {N : Addr} {bs bm : List Value} {hdct : Bool} {sn : List Str} {sub : List Value} {ab : Bool} {col : Option Bool} {dd : Option Addr} {k0 k1 k2 k3 k5 : Option Value} (lk : K.lookup C = some (excClassObj nm q C N bs bm hdct sn sub ab col dd k0 k1 k2 k3 k5 "Exception.__new__")) (e1 : bm.contains (.type "Exception") = true) (e2 : bm.contains (.type "AttributeError") = false) (e3 : bm.contains (.type "NameError") = false) (e4 : bm.contains (.type "BaseException") = true) :
    ∃ nm q N bs bm hdct sn sub ab col dd k0 k1 k2 k3 k5, K.lookup C = some (excClassObj nm q C N bs bm hdct sn sub ab col dd k0 k1 k2 k3 k5 "Exception.__new__") ∧ bm.contains (.type "Exception") = true ∧ bm.contains (.type "AttributeError") = false ∧ bm.contains (.type "NameError") = false ∧ bm.contains (.type "BaseException") = true :=
  ⟨_, _, _, _, _, _, _, _, _, _, _, _, _, _, _, _, lk, e1, e2, e3, e4⟩
structure RefX (K : PySem.W.Frag) (mg : Str → Option Value) (x qual : Str) (st : Stmt) (Rc C f : Addr) (fd : FuncData) : Prop where
  made : XMk K C f
  cls : XCls K C
  m : mg x = some (.ref C)
  F : Fun K "__init__" qual st f fd
  b : Binds K fd ["self"] []
  ex : PySem.W.exmOne K (.ref C) (.ref Rc) = some true
theorem rfx {Rc : Addr} (hb : BindsF "__init__" qual st ["self"]) (X : K.In h) (G : h.Ns mainGlobals mg) (aC : PySem.W.nsIn K mainGlobals x = some (some (.ref C)))
    (cls : ∃ nm q N bs bm hdct sn sub ab col dd k0 k1 k2 k3 k5, K.lookup C = some (excClassObj nm q C N bs bm hdct sn sub ab col dd k0 k1 k2 k3 k5 "Exception.__new__") ∧ bm.contains (.type "Exception") = true ∧ bm.contains (.type "AttributeError") = false ∧ bm.contains (.type "NameError") = false ∧ bm.contains (.type "BaseException") = true)
    (kc : PySem.W.keepIn K (.ref C) = true) (a : PySem.W.findIn K (.ref C) "__init__" = some (some (.ref f))) (i : PySem.W.isFn K (.ref f) = true) (l : K.lookup f = some ⟨oc, od, .func (fdOf "__init__" qual st kV doc pm an cdv ct), osl⟩) (c : PySem.W.codeIn K cdv qual = true) (k : PySem.W.keepIn K (.ref f) = true)
    (over : excOver K C = true) (sa : PySem.W.findIn K (.ref C) "__setattr__" = some (some (.builtin "object.__setattr__"))) (tk : PySem.W.takerIn K C "number" = some none) (hd : PySem.W.hasDictIn K C = true) (ga : PySem.W.findIn K (.ref C) "__getattribute__" = some (some (.builtin "BaseException.__getattribute__"))) (gh : PySem.W.findIn K (.ref C) "__getattr__" = some none) (nn : PySem.W.findIn K (.ref C) "number" = some none)
    (ex : PySem.W.exmOne K (.ref C) (.ref Rc) = some true) : ∃ C f fd, RefX K mg x qual st Rc C f fd :=
  have F := fun_mk l c k
  ⟨C, f, _, ⟨cls, a, i, kc⟩, ⟨over, sa, tk, hd, ga, gh, nn⟩, PySem.W.mg_of X G aC, F, F.binds hb, ex⟩
end
theorem bd_kind_of : BindsF "kind_of" "kind_of" sKind ["form", "detail"] := fun _ _ _ _ _ _ us hl => match us, hl with | [_, _], _ => rfl
theorem bd_place_of : BindsF "place_of" "place_of" sPlace ["kind", "position"] := fun _ _ _ _ _ _ us hl => match us, hl with | [_, _], _ => rfl
theorem bd_around_of : BindsF "around_of" "around_of" sAround ["kind", "position"] := fun _ _ _ _ _ _ us hl => match us, hl with | [_, _], _ => rfl
theorem bd_name_of_read : BindsF "name_of_read" "name_of_read" sName ["number"] := fun _ _ _ _ _ _ us hl => match us, hl with | [_], _ => rfl
theorem bd_common_divisor : BindsF "common_divisor" "common_divisor" sGcd ["a", "b"] := fun _ _ _ _ _ _ us hl => match us, hl with | [_, _], _ => rfl
theorem bd_is_right_pair : BindsF "is_right_pair" "is_right_pair" sPair ["numerator", "denominator"] := fun _ _ _ _ _ _ us hl => match us, hl with | [_, _], _ => rfl
theorem bd_signs_of : BindsF "signs_of" "signs_of" sSigns ["text"] := fun _ _ _ _ _ _ us hl => match us, hl with | [_], _ => rfl
theorem bd_wants_brackets : BindsF "wants_brackets" "wants_brackets" sWants ["node", "position"] := fun _ _ _ _ _ _ us hl => match us, hl with | [_, _], _ => rfl
theorem bd_nesting_of : BindsF "nesting_of" "nesting_of" sNest ["node"] := fun _ _ _ _ _ _ us hl => match us, hl with | [_], _ => rfl
theorem bd_printed : BindsF "printed" "printed" sPrinted ["node"] := fun _ _ _ _ _ _ us hl => match us, hl with | [_], _ => rfl
theorem bd_printed_part : BindsF "printed_part" "printed_part" sPart ["node", "position"] := fun _ _ _ _ _ _ us hl => match us, hl with | [_, _], _ => rfl
theorem bd_printed_number : BindsF "printed_number" "printed_number" sPNum ["pair"] := fun _ _ _ _ _ _ us hl => match us, hl with | [_], _ => rfl
theorem bd_word_of : BindsF "word_of" "word_of" sWord ["node"] := fun _ _ _ _ _ _ us hl => match us, hl with | [_], _ => rfl
theorem bd_printed_before : BindsF "printed_before" "printed_before" sBefore ["detail"] := fun _ _ _ _ _ _ us hl => match us, hl with | [_], _ => rfl
theorem bd_joining_signs : BindsF "joining_signs" "joining_signs" sJoin ["node"] := fun _ _ _ _ _ _ us hl => match us, hl with | [_], _ => rfl
theorem bd_with_commas : BindsF "with_commas" "with_commas" sCommas ["parts"] := fun _ _ _ _ _ _ us hl => match us, hl with | [_], _ => rfl
theorem bd_instructions_in : BindsF "instructions_in" "instructions_in" sIns ["code", "n"] := fun _ _ _ _ _ _ us hl => match us, hl with | [_, _], _ => rfl
theorem bd_is_right_instruction : BindsF "is_right_instruction" "is_right_instruction" sRight ["row", "n"] := fun _ _ _ _ _ _ us hl => match us, hl with | [_, _], _ => rfl
theorem bd_choices_of : BindsF "choices_of" "choices_of" sChoices ["first", "n"] := fun _ _ _ _ _ _ us hl => match us, hl with | [_, _], _ => rfl
theorem bd_formula_node : BindsF "formula_node" "formula_node" sFormula ["formula", "parts"] := fun _ _ _ _ _ _ us hl => match us, hl with | [_, _], _ => rfl
theorem bd_pick_node : BindsF "pick_node" "pick_node" sPick ["detail", "parts"] := fun _ _ _ _ _ _ us hl => match us, hl with | [_, _], _ => rfl
theorem bd_simple_expression_of : BindsF "simple_expression_of" "simple_expression_of" sSimple ["code", "n"] := fun _ _ _ _ _ _ us hl => match us, hl with | [_, _], _ => rfl
theorem bd_check_parameters : BindsF "check_parameters" "check_parameters" sPar ["n"] := fun _ _ _ _ _ _ us hl => match us, hl with | [_], _ => rfl
theorem bd_check_length : BindsF "check_length" "check_length" sLen ["numbers"] := fun _ _ _ _ _ _ us hl => match us, hl with | [_], _ => rfl
theorem bd_check_depth : BindsF "check_depth" "check_depth" sDepth ["node"] := fun _ _ _ _ _ _ us hl => match us, hl with | [_], _ => rfl
theorem bd_taken_code : BindsF "taken_code" "taken_code" sTaken ["n", "numbers"] := fun _ _ _ _ _ _ us hl => match us, hl with | [_, _], _ => rfl
theorem bd_done : BindsF "done" "done" sDone ["row"] := fun _ _ _ _ _ _ us hl => match us, hl with | [_], _ => rfl
theorem bd_tree : BindsF "tree" "tree" sTree ["n", "code"] := fun _ _ _ _ _ _ us hl => match us, hl with | [_, _], _ => rfl
theorem bm_limit : BindsF "limit" "Choice.limit" (sCho 1) ["self"] := fun _ _ _ _ _ _ us hl => match us, hl with | [_], _ => rfl
theorem bm_step : BindsF "step" "Recovery.step" (sRec 1) ["self"] := fun _ _ _ _ _ _ us hl => match us, hl with | [_], _ => rfl
theorem bm_free : BindsF "free" "Recovery.free" (sRec 2) ["self"] := fun _ _ _ _ _ _ us hl => match us, hl with | [_], _ => rfl
theorem bm_take_parts : BindsF "take_parts" "Recovery.take_parts" (sRec 3) ["self", "count"] := fun _ _ _ _ _ _ us hl => match us, hl with | [_, _], _ => rfl
theorem bm_take_only : BindsF "take_only" "Recovery.take_only" (sRec 4) ["self"] := fun _ _ _ _ _ _ us hl => match us, hl with | [_], _ => rfl
theorem bm_take_plain : BindsF "take_plain" "Recovery.take_plain" (sRec 5) ["self", "row"] := fun _ _ _ _ _ _ us hl => match us, hl with | [_, _], _ => rfl
theorem bm_plain_node : BindsF "plain_node" "Recovery.plain_node" (sRec 6) ["self", "row"] := fun _ _ _ _ _ _ us hl => match us, hl with | [_, _], _ => rfl
theorem bm_begin_choice : BindsF "begin_choice" "Recovery.begin_choice" (sRec 7) ["self", "length"] := fun _ _ _ _ _ _ us hl => match us, hl with | [_, _], _ => rfl
theorem bm_go_on_choice : BindsF "go_on_choice" "Recovery.go_on_choice" (sRec 8) ["self"] := fun _ _ _ _ _ _ us hl => match us, hl with | [_], _ => rfl
theorem bm_end_joining : BindsF "end_joining" "Recovery.end_joining" (sRec 9) ["self"] := fun _ _ _ _ _ _ us hl => match us, hl with | [_], _ => rfl
theorem bm_place_of_nine : BindsF "place_of_nine" "Recovery.place_of_nine" (sRec 10) ["self", "choice"] := fun _ _ _ _ _ _ us hl => match us, hl with | [_, _], _ => rfl
theorem bm_end_ifs : BindsF "end_ifs" "Recovery.end_ifs" (sRec 11) ["self"] := fun _ _ _ _ _ _ us hl => match us, hl with | [_], _ => rfl
theorem bi_Node : BindsF "__init__" "Node.__init__" sNode ["self", "form", "detail", "parts"] := fun _ _ _ _ _ _ us hl => match us, hl with | [_, _, _, _], _ => rfl
theorem bi_Choice : BindsF "__init__" "Choice.__init__" (sCho 0) ["self", "condition", "start", "middle", "end", "base"] := fun _ _ _ _ _ _ us hl => match us, hl with | [_, _, _, _, _, _], _ => rfl
theorem bi_Recovery : BindsF "__init__" "Recovery.__init__" (sRec 0) ["self", "rows"] := fun _ _ _ _ _ _ us hl => match us, hl with | [_, _], _ => rfl
theorem bi_Refusal : BindsF "__init__" "Refusal.__init__" sRef ["self", "number"] := fun _ _ _ _ _ _ us hl => match us, hl with | [_, _], _ => rfl
theorem bi_WrongParameterCount : BindsF "__init__" "WrongParameterCount.__init__" (sSub 26) ["self"] := fun _ _ _ _ _ _ us hl => match us, hl with | [_], _ => rfl
theorem bi_CodeTooLong : BindsF "__init__" "CodeTooLong.__init__" (sSub 27) ["self"] := fun _ _ _ _ _ _ us hl => match us, hl with | [_], _ => rfl
theorem bi_NoCode : BindsF "__init__" "NoCode.__init__" (sSub 28) ["self"] := fun _ _ _ _ _ _ us hl => match us, hl with | [_], _ => rfl
theorem bi_CodeTooDeep : BindsF "__init__" "CodeTooDeep.__init__" (sSub 29) ["self"] := fun _ _ _ _ _ _ us hl => match us, hl with | [_], _ => rfl
def consts : List (Str × TV) := [("ONE", .i 2), ("TWO", .i 3), ("AND", .i 4), ("OR", .i 5), ("IF", .i 6), ("STRONGEST", .i 9), ("ONE_KINDS", tvs ONEK), ("TWO_KINDS", tvs TWOK), ("PLACES", .t (PLACEL.map tvs)), ("AROUND", .t (AROUNDL.map tvs)),
  ("NUMBER", .i 0), ("NAME", .i 1), ("PICK", .i 7), ("ONE_WORDS", tvss ONEW), ("PICK_WORDS", tvss PICKW), ("TWO_SIGNS", .t (TWOS.map tvs)), ("OPENING", .i 40), ("CLOSING", .i 41), ("BLANK", .i 32),
  ("LENGTHS", tvs LENS), ("NUMBER_ZERO", tvs [0, 0, 1]), ("NUMBER_ONE", tvs [0, 1, 1]), ("FORMULAS", .i 64), ("TABLES", .i 64), ("MOST_ARGUMENTS", .i 8), ("CALL", .i 8),
  ("MOST_PARAMETERS", .i 8), ("LONGEST_CODE", .i 500), ("HIGHEST", .i 32), ("DEEPEST", .i 32), ("LARGEST", .i 1000000000000000000), ("READ_ROWS", .t (ROWS.map rowTV))]
def absent : List Str := ["max", "enumerate", "ord", "len", "str", "list", "range", "tuple", "Exception"]
def constsOk (K : PySem.W.Frag) : Bool := consts.all fun p => gTV K p.1 p.2
def isAbsent (K : PySem.W.Frag) (x : Str) : Bool := match PySem.W.nsIn K mainGlobals x with
  | some none => true
  | _ => false
def absentOk (K : PySem.W.Frag) : Bool := absent.all fun x => isAbsent K x
theorem gc_ix {K : PySem.W.Frag} {h : Heap} {mg : Str → Option Value} {x : Str} {c : TV} (X : K.In h) (G : h.Ns mainGlobals mg) (hc : constsOk K = true) (i : Nat) (e : consts[i]? = some (x, c)) : GC K mg x c :=
  gc_of X G (List.all_eq_true.mp hc (x, c) (List.mem_of_getElem? e))
theorem no_ix {K : PySem.W.Frag} {h : Heap} {mg : Str → Option Value} {x : Str} (X : K.In h) (G : h.Ns mainGlobals mg) (ha : absentOk K = true) (i : Nat) (e : absent[i]? = some x) : mg x = none := by
  have := List.all_eq_true.mp ha x (List.mem_of_getElem? e)
  unfold isAbsent at this
  split at this
  · rename_i q
    exact PySem.W.mg_none_of X G q
  · cases this
def entOk (H : Str → Int) : List (Str × Int) → List DictEntry → Prop
  | [], [] => True
  | p :: r, e :: s => (∃ t t', e.key = .str p.1 t ∧ e.val = .int p.2 t') ∧ e.hash = H p.1 ∧ entOk H r s
  | _, _ => False
theorem ent_len {H : Str → Int} : ∀ {l : List (Str × Int)} {es : List DictEntry}, entOk H l es → es.length = l.length
  | [], [], _ => rfl
  | p :: r, e :: s, h => by simp only [List.length_cons]; rw [ent_len h.2.2]
  | [], e :: s, h => h.elim
  | p :: r, [], h => h.elim
theorem ent_vals {P : Program} {w : World} : ∀ {l : List (Str × Int)} {es : List DictEntry}, entOk (hashStr w) l es → ∃ vs : List (Key × Value), KV (l.map fun p => (Sum.inr p.1, V.int p.2)) vs ∧ Pairs (mixKind P w) es vs ∧ vs.map (·.1) = l.map (fun p => (Sum.inr p.1 : Key)) ∧ ∀ e ∈ es, ∃ k, (mixKind P w).is k e.key = true ∧ e.hash = (mixKind P w).hash k
  | [], [], _ => ⟨[], .nil, .nil, rfl, fun e h => by cases h⟩
  | p :: r, e :: s, h => by
    obtain ⟨vs, h1, h2, h3, h4⟩ := ent_vals (P := P) h.2.2
    obtain ⟨t, t', hk, hv⟩ := h.1
    refine ⟨(Sum.inr p.1, e.val) :: vs, .cons ⟨rfl, by rw [hv]; exact ⟨t', rfl⟩⟩ h1, .cons (by show (mixKind P w).is (Sum.inr p.1) e.key = true; rw [hk]; exact mixKind_str P w _ t) rfl h2, by rw [List.map_cons, List.map_cons, h3], fun e' he' => ?_⟩
    rcases List.mem_cons.mp he' with rfl | he'
    · exact ⟨Sum.inr p.1, by rw [hk]; exact mixKind_str P w _ t, h.2.1⟩
    · exact h4 e' he'
  | [], e :: s, h => h.elim
  | p :: r, [], h => h.elim
theorem alone_nodup : (ALONE.map fun p => (Sum.inr p.1 : Key)).Nodup := by decide +kernel
theorem kdx {K : PySem.W.Frag} {w : World} {h : Heap} {mg : Str → Option Value} {d : Addr} {es : List DictEntry} {ep : Nat} (X : K.In h) (G : h.Ns mainGlobals mg) (a : PySem.W.nsIn K mainGlobals "READ_ALONE" = some (some (.ref d))) (l : K.lookup d = some ⟨.type "dict", none, .dict es.toArray ep, #[]⟩) (hs : (d == sysModules) = false) (he : entOk (hashStr w) ALONE es) :
    ∃ d, mg "READ_ALONE" = some (.ref d) ∧ KDict K w d aloneKV := by
  refine ⟨d, PySem.W.mg_of X G a, hs, fun P => ?_⟩
  obtain ⟨vs, h1, h2, h3, h4⟩ := ent_vals (P := P) he
  refine ⟨_, es.toArray, ep, vs, l, ⟨rfl, rfl, rfl⟩, rfl, ?_, h1, fun e hem => h4 e (by simpa using hem), by simpa using h2, by rw [h3]; exact alone_nodup⟩
  rw [List.size_toArray, ent_len he]
  unfold aloneKV
  rw [List.length_map]
theorem all_ok {P : Program} {w : World} {K : PySem.W.Frag} {h : Heap} {mg : Str → Option Value} {fa : Addr} (X : K.In h) (G : h.Ns mainGlobals mg) (hfa : mg "tree" = some (.ref fa)) (hc : constsOk K = true) (ha : absentOk K = true) (hd : ∃ d, mg "READ_ALONE" = some (.ref d) ∧ KDict K w d aloneKV)
    (H_kind_of : ∃ f fd, Fn K mg "kind_of" sKind f fd ["form", "detail"])
    (H_place_of : ∃ f fd, Fn K mg "place_of" sPlace f fd ["kind", "position"])
    (H_around_of : ∃ f fd, Fn K mg "around_of" sAround f fd ["kind", "position"])
    (H_name_of_read : ∃ f fd, Fn K mg "name_of_read" sName f fd ["number"])
    (H_common_divisor : ∃ f fd, Fn K mg "common_divisor" sGcd f fd ["a", "b"])
    (H_is_right_pair : ∃ f fd, Fn K mg "is_right_pair" sPair f fd ["numerator", "denominator"])
    (H_signs_of : ∃ f fd, Fn K mg "signs_of" sSigns f fd ["text"])
    (H_wants_brackets : ∃ f fd, Fn K mg "wants_brackets" sWants f fd ["node", "position"])
    (H_nesting_of : ∃ f fd, Fn K mg "nesting_of" sNest f fd ["node"])
    (H_printed : ∃ f fd, Fn K mg "printed" sPrinted f fd ["node"])
    (H_printed_part : ∃ f fd, Fn K mg "printed_part" sPart f fd ["node", "position"])
    (H_printed_number : ∃ f fd, Fn K mg "printed_number" sPNum f fd ["pair"])
    (H_word_of : ∃ f fd, Fn K mg "word_of" sWord f fd ["node"])
    (H_printed_before : ∃ f fd, Fn K mg "printed_before" sBefore f fd ["detail"])
    (H_joining_signs : ∃ f fd, Fn K mg "joining_signs" sJoin f fd ["node"])
    (H_with_commas : ∃ f fd, Fn K mg "with_commas" sCommas f fd ["parts"])
    (H_instructions_in : ∃ f fd, Fn K mg "instructions_in" sIns f fd ["code", "n"])
    (H_is_right_instruction : ∃ f fd, Fn K mg "is_right_instruction" sRight f fd ["row", "n"])
    (H_choices_of : ∃ f fd, Fn K mg "choices_of" sChoices f fd ["first", "n"])
    (H_formula_node : ∃ f fd, Fn K mg "formula_node" sFormula f fd ["formula", "parts"])
    (H_pick_node : ∃ f fd, Fn K mg "pick_node" sPick f fd ["detail", "parts"])
    (H_simple_expression_of : ∃ f fd, Fn K mg "simple_expression_of" sSimple f fd ["code", "n"])
    (H_check_parameters : ∃ f fd, Fn K mg "check_parameters" sPar f fd ["n"])
    (H_check_length : ∃ f fd, Fn K mg "check_length" sLen f fd ["numbers"])
    (H_check_depth : ∃ f fd, Fn K mg "check_depth" sDepth f fd ["node"])
    (H_taken_code : ∃ f fd, Fn K mg "taken_code" sTaken f fd ["n", "numbers"])
    (H_done : ∃ f fd, Fn K mg "done" sDone f fd ["row"])
    (H_tree : ∃ f fd, Fn K mg "tree" sTree f fd ["n", "code"])
    (HN : ∃ C, (∃ f fd, ClsX K mg "Node" "Node.__init__" sNode ["self", "form", "detail", "parts"] C f fd) ∧ NoAttr K C "form" ∧ NoAttr K C "detail" ∧ NoAttr K C "parts" ∧ NoAttr K C "height")
    (HC : ∃ C, (∃ f fd, ClsX K mg "Choice" "Choice.__init__" (sCho 0) ["self", "condition", "start", "middle", "end", "base"] C f fd) ∧ NoAttr K C "condition" ∧ NoAttr K C "start" ∧ NoAttr K C "middle" ∧ NoAttr K C "end" ∧ NoAttr K C "base" ∧ NoAttr K C "first_part" ∧ (∃ f fd, Fm K C "limit" "Choice.limit" (sCho 1) f fd ["self"]))
    (HR : ∃ C, (∃ f fd, ClsX K mg "Recovery" "Recovery.__init__" (sRec 0) ["self", "rows"] C f fd) ∧ NoAttr K C "rows" ∧ NoAttr K C "at" ∧ NoAttr K C "waiting" ∧ NoAttr K C "choices" ∧ (∃ f fd, Fm K C "step" "Recovery.step" (sRec 1) f fd ["self"]) ∧ (∃ f fd, Fm K C "free" "Recovery.free" (sRec 2) f fd ["self"]) ∧ (∃ f fd, Fm K C "take_parts" "Recovery.take_parts" (sRec 3) f fd ["self", "count"]) ∧ (∃ f fd, Fm K C "take_only" "Recovery.take_only" (sRec 4) f fd ["self"]) ∧ (∃ f fd, Fm K C "take_plain" "Recovery.take_plain" (sRec 5) f fd ["self", "row"]) ∧ (∃ f fd, Fm K C "plain_node" "Recovery.plain_node" (sRec 6) f fd ["self", "row"]) ∧ (∃ f fd, Fm K C "begin_choice" "Recovery.begin_choice" (sRec 7) f fd ["self", "length"]) ∧ (∃ f fd, Fm K C "go_on_choice" "Recovery.go_on_choice" (sRec 8) f fd ["self"]) ∧ (∃ f fd, Fm K C "end_joining" "Recovery.end_joining" (sRec 9) f fd ["self"]) ∧ (∃ f fd, Fm K C "place_of_nine" "Recovery.place_of_nine" (sRec 10) f fd ["self", "choice"]) ∧ (∃ f fd, Fm K C "end_ifs" "Recovery.end_ifs" (sRec 11) f fd ["self"]))
    (HX : ∃ Rc, (mg "Refusal" = some (.ref Rc) ∧ ∃ f fd, ClsRead K Rc "__init__" f ∧ Fun K "__init__" "Refusal.__init__" sRef f fd ∧ Binds K fd ["self", "number"] []) ∧ (∃ C f fd, RefX K mg "WrongParameterCount" "WrongParameterCount.__init__" (sSub 26) Rc C f fd) ∧ (∃ C f fd, RefX K mg "CodeTooLong" "CodeTooLong.__init__" (sSub 27) Rc C f fd) ∧ (∃ C f fd, RefX K mg "NoCode" "NoCode.__init__" (sSub 28) Rc C f fd) ∧ (∃ C f fd, RefX K mg "CodeTooDeep" "CodeTooDeep.__init__" (sSub 29) Rc C f fd))
    : ∃ fd : FuncData, (∀ (s : Shared) (us : List Value), us.length = (["n", "code"] : List Str).length → BindsTo s fd ⟨us, []⟩ ((["n", "code"] : List Str).zip us)) ∧ ∀ base : Heap, K.In base → base.Ns mainGlobals mg → FnOk P w K mg base (CXr P w) 67 fa fd ["n", "code"] (spTree K) := by
  obtain ⟨f_kind_of, d_kind_of, F_kind_of⟩ := H_kind_of
  obtain ⟨f_place_of, d_place_of, F_place_of⟩ := H_place_of
  obtain ⟨f_around_of, d_around_of, F_around_of⟩ := H_around_of
  obtain ⟨f_name_of_read, d_name_of_read, F_name_of_read⟩ := H_name_of_read
  obtain ⟨f_common_divisor, d_common_divisor, F_common_divisor⟩ := H_common_divisor
  obtain ⟨f_is_right_pair, d_is_right_pair, F_is_right_pair⟩ := H_is_right_pair
  obtain ⟨f_signs_of, d_signs_of, F_signs_of⟩ := H_signs_of
  obtain ⟨f_wants_brackets, d_wants_brackets, F_wants_brackets⟩ := H_wants_brackets
  obtain ⟨f_nesting_of, d_nesting_of, F_nesting_of⟩ := H_nesting_of
  obtain ⟨f_printed, d_printed, F_printed⟩ := H_printed
  obtain ⟨f_printed_part, d_printed_part, F_printed_part⟩ := H_printed_part
  obtain ⟨f_printed_number, d_printed_number, F_printed_number⟩ := H_printed_number
  obtain ⟨f_word_of, d_word_of, F_word_of⟩ := H_word_of
  obtain ⟨f_printed_before, d_printed_before, F_printed_before⟩ := H_printed_before
  obtain ⟨f_joining_signs, d_joining_signs, F_joining_signs⟩ := H_joining_signs
  obtain ⟨f_with_commas, d_with_commas, F_with_commas⟩ := H_with_commas
  obtain ⟨f_instructions_in, d_instructions_in, F_instructions_in⟩ := H_instructions_in
  obtain ⟨f_is_right_instruction, d_is_right_instruction, F_is_right_instruction⟩ := H_is_right_instruction
  obtain ⟨f_choices_of, d_choices_of, F_choices_of⟩ := H_choices_of
  obtain ⟨f_formula_node, d_formula_node, F_formula_node⟩ := H_formula_node
  obtain ⟨f_pick_node, d_pick_node, F_pick_node⟩ := H_pick_node
  obtain ⟨f_simple_expression_of, d_simple_expression_of, F_simple_expression_of⟩ := H_simple_expression_of
  obtain ⟨f_check_parameters, d_check_parameters, F_check_parameters⟩ := H_check_parameters
  obtain ⟨f_check_length, d_check_length, F_check_length⟩ := H_check_length
  obtain ⟨f_check_depth, d_check_depth, F_check_depth⟩ := H_check_depth
  obtain ⟨f_taken_code, d_taken_code, F_taken_code⟩ := H_taken_code
  obtain ⟨f_done, d_done, F_done⟩ := H_done
  obtain ⟨f_tree, d_tree, F_tree⟩ := H_tree
  obtain ⟨C, ⟨fN, dN, KN⟩, n_form, n_detail, n_parts, n_height⟩ := HN
  obtain ⟨CC, ⟨fC, dC, KC⟩, c_condition, c_start, c_middle, c_end, c_base, c_first_part, fL, dL, FL⟩ := HC
  obtain ⟨R, ⟨fR0, dR0, KR⟩, r_rows, r_at, r_waiting, r_choices, ⟨m_step, e_step, M_step⟩, ⟨m_free, e_free, M_free⟩, ⟨m_take_parts, e_take_parts, M_take_parts⟩, ⟨m_take_only, e_take_only, M_take_only⟩, ⟨m_take_plain, e_take_plain, M_take_plain⟩, ⟨m_plain_node, e_plain_node, M_plain_node⟩, ⟨m_begin_choice, e_begin_choice, M_begin_choice⟩, ⟨m_go_on_choice, e_go_on_choice, M_go_on_choice⟩, ⟨m_end_joining, e_end_joining, M_end_joining⟩, ⟨m_place_of_nine, e_place_of_nine, M_place_of_nine⟩, ⟨m_end_ifs, e_end_ifs, M_end_ifs⟩⟩ := HR
  obtain ⟨Rc, ⟨mR, fR, dR, clR, FR, bR⟩, ⟨Cw, fw, dw, Xw⟩, ⟨Cl, fl, dl, Xl⟩, ⟨Cn, fn, dn, Xn⟩, ⟨Cd, fd4, dd, Xd⟩⟩ := HX
  have e := hfa.symm.trans F_tree.m
  cases e
  have no : ∀ (i : Nat) {x : Str}, absent[i]? = some x → mg x = none := fun i _ e => no_ix X G ha i e
  have gc : ∀ (i : Nat) {x : Str} {c : TV}, consts[i]? = some (x, c) → GC K mg x c := fun i _ _ e => gc_ix X G hc i e
  have TN : NodeC K C := ⟨KN.cl, n_form, n_detail, n_parts, n_height⟩
  have TR : RecC K R := ⟨KR.cl, r_rows, r_at, r_waiting, r_choices⟩
  have TC : ChoC K CC := ⟨KC.cl, c_condition, c_start, c_middle, c_end, c_base, c_first_part⟩
  have TQ : CN K mg := ⟨gc 0 rfl, gc 1 rfl, gc 2 rfl, gc 3 rfl, gc 4 rfl, gc 5 rfl, gc 6 rfl, gc 7 rfl, gc 8 rfl, gc 9 rfl⟩
  have TP : CP K mg := ⟨gc 10 rfl, gc 11 rfl, gc 12 rfl, gc 13 rfl, gc 14 rfl, gc 15 rfl, gc 16 rfl, gc 17 rfl, gc 18 rfl, no 4 rfl, no 5 rfl, no 6 rfl, no 3 rfl⟩
  have TS : CR K mg := ⟨gc 19 rfl, gc 20 rfl, gc 21 rfl, gc 22 rfl, gc 23 rfl, gc 24 rfl, gc 25 rfl, no 7 rfl⟩
  have TU : CS K mg := ⟨gc 26 rfl, gc 27 rfl, gc 28 rfl, gc 29 rfl, no 3 rfl⟩
  have hL : GC K mg "LARGEST" (.i 1000000000000000000) := gc 30 rfl
  have TM : CM K w mg := ⟨hd, gc 31 rfl, no 4 rfl⟩
  have T : RT K mg C R CC := ⟨TN, TR, TC, TP, TQ, TS⟩
  have hmax : mg "max" = none := no 0 rfl
  have hen : mg "enumerate" = none := no 1 rfl
  have hord : mg "ord" = none := no 2 rfl
  have hex : mg "Exception" = none := no 8 rfl
  obtain ⟨oc, od, kV, doc, pm, an, cdv, ct, osl, hfd, _, _⟩ := F_tree.F.ex
  refine ⟨d_tree, fun s us hu => by rw [hfd]; exact .of_eq (bd_tree kV doc pm an cdv ct us hu), fun base _ _ => ?_⟩
  have XW : XC P w K mg base "WrongParameterCount" Cw fw dw (-1) := ⟨Xw.made, Xw.cls, Xw.m, Xw.b, ok_wpc Xw.F FR bR mR clR hex⟩
  have XL_ : XC P w K mg base "CodeTooLong" Cl fl dl (-2) := ⟨Xl.made, Xl.cls, Xl.m, Xl.b, ok_long Xl.F FR bR mR clR hex⟩
  have XN : XC P w K mg base "NoCode" Cn fn dn (-3) := ⟨Xn.made, Xn.cls, Xn.m, Xn.b, ok_nocode Xn.F FR bR mR clR hex⟩
  have XD : XC P w K mg base "CodeTooDeep" Cd fd4 dd (-4) := ⟨Xd.made, Xd.cls, Xd.m, Xd.b, ok_deep Xd.F FR bR mR clR hex⟩
  have NN : NK P w K mg base C fN dN := ⟨KN.mk_, ok_node KN.F TN hmax, KN.b, KN.m⟩
  have GTP : FnOk P w K mg base (CXr P w) 4 m_take_parts e_take_parts ["self", "count"] (spTakeParts C R CC Cn) := ok_takeP M_take_parts.F M_free T XN
  have GTO : FnOk P w K mg base (CXr P w) 4 m_take_only e_take_only ["self"] (spTakeOnly C R CC Cn) := ok_takeO M_take_only.F M_free T XN
  have GNA : FnOk P w K mg base (CXr P w) 1 f_name_of_read d_name_of_read ["number"] spName := ok_name F_name_of_read TM
  have RFx : RF P w K mg base C R CC Cn fn dn fN m_take_parts m_take_only f_formula_node f_pick_node f_name_of_read dN e_take_parts e_take_only d_formula_node d_pick_node d_name_of_read :=
    ⟨T, XN, NN, GTP, M_take_parts.me, M_take_parts.b, GTO, M_take_only.me, M_take_only.b, ok_formula F_formula_node T NN, F_formula_node, ok_pick F_pick_node T NN, F_pick_node, GNA, F_name_of_read⟩
  have GPN : FnOk P w K mg base (CXr P w) 5 m_plain_node e_plain_node ["self", "row"] (spPlainN C R CC Cn) := ok_plainN M_plain_node.F RFx
  have GTL : FnOk P w K mg base (CXr P w) 6 m_take_plain e_take_plain ["self", "row"] (spTakePl C R CC Cn) := ok_takePl M_take_plain.F T M_plain_node GPN
  have W : ChK P w K mg base CC fC fL dC dL := ⟨KC.mk_, ok_choI KC.F TC, KC.b, KC.m, ok_limit FL.F TC, FL.me, FL.b⟩
  have GST : FnOk P w K mg base (CXr P w) 7 m_step e_step ["self"] (spStep C R CC Cn) := ok_step M_step.F ⟨T, ok_begin M_begin_choice.F RFx W, M_begin_choice.me, M_begin_choice.b, ok_goOn M_go_on_choice.F RFx, M_go_on_choice.me, M_go_on_choice.b, ok_endJ M_end_joining.F RFx M_place_of_nine, M_end_joining.me, M_end_joining.b, GTL, M_take_plain.me, M_take_plain.b, ok_endI M_end_ifs.F RFx, M_end_ifs.me, M_end_ifs.b⟩
  have GRI : FnOk P w K mg base (CXr P w) 3 f_is_right_instruction d_is_right_instruction ["row", "n"] spRight := ok_right F_is_right_instruction F_is_right_pair hL F_common_divisor F_name_of_read F_choices_of TP TS TM
  have GIN : FnOk P w K mg base (CXr P w) 4 f_instructions_in d_instructions_in ["code", "n"] (spIns K Cn) := ok_ins F_instructions_in F_is_right_instruction GRI XN TP TS
  have GSI : FnOk P w K mg base (CXr P w) 8 f_simple_expression_of d_simple_expression_of ["code", "n"] (spSimple K C Cn) := ok_simple F_simple_expression_of ⟨T, F_instructions_in, GIN, KR.mk_, ok_recI KR.F TR, KR.b, KR.m, GST, M_step.me, M_step.b, GTO, M_take_only.me, M_take_only.b⟩
  have GNE : FnOk P w K mg base (CXr P w) 35 f_nesting_of d_nesting_of ["node"] (spNest C 32) := ok_nest F_nesting_of TN F_kind_of F_around_of F_wants_brackets F_place_of TQ hmax hen 32
  have GPR : FnOk P w K mg base (CXr P w) 66 f_printed d_printed ["node"] (spPrinted C 32) := ok_printed F_printed F_printed_part ⟨F_kind_of, F_printed_number, F_signs_of, F_word_of, F_printed_before, F_joining_signs, F_with_commas⟩ F_wants_brackets F_place_of TN TP TQ hord 32
  exact ok_tree F_tree mR F_check_parameters (ok_par F_check_parameters XW TU) F_taken_code (ok_taken F_taken_code F_check_length (ok_len F_check_length XL_ TU) F_simple_expression_of GSI F_check_depth (ok_depth F_check_depth F_nesting_of GNE TN XD TU)) F_printed GPR F_done (ok_done F_done TU)
    Xw.cls Xl.cls Xn.cls Xd.cls Xw.ex Xl.ex Xn.ex Xd.ex
end SB
end
section
set_option Elab.async false
set_option linter.all false
namespace SB
open PySem PySem.Spec PyProof.Rows L2
open PySem.W (Codec OpenSpec)
theorem walk_x {r : OpenSpec} {k : Nat} {q : Program} {loose : List Str} {XP : (Str → Option Value) → Heap → Prop} {YP : World → Heap → Prop} {d : DefRec} {K : Params → PySem.W.Frag} {ps : List Str} {sp : PySem.W.Frag → Sp}
    (hwell : r.wellSaid = true) (hdf : d.params.defaults = []) (hlen : r.args.length = ps.length) (hr : Room k callerA) (hY : ∀ (w : World) (h : Heap), YP w h → (K w.params).In h)
    (F : ∀ (w : World) (mg : Str → Option Value) (fa : Addr) (h : Heap), YP w h → (K w.params).In h → h.Ns mainGlobals mg → mg d.name = some (.ref fa) →
      ∃ fd : FuncData, (∀ (s : Shared) (us : List Value), us.length = ps.length → BindsTo s fd ⟨us, []⟩ (ps.zip us)) ∧ ∀ base : Heap, (K w.params).In base → base.Ns mainGlobals mg → FnOk r.prog w (K w.params) mg base (XL.CXr r.prog w) k fa fd ps (sp (K w.params)))
    (hsp : ∀ (K : PySem.W.Frag) (H : Hp) (xs : List V) (a : Codec.denoteAll r.args), DwAll K H xs (Codec.encAll r.args a) → sp K xs H (fun v H' => Dw K H' v (r.ret.enc (Codec.app r.args r.f a))) fun _ _ _ => False) :
    PySem.W.WalkOS q loose XP YP r d [] (fun f vs => PySem.call f vs) :=
  walk_spec (K := K) (CX := fun w => XL.CXr r.prog w) (sp := fun w => sp (K w.params)) hwell hdf hlen hr hY F (fun w H xs a _ _ _ h4 => hsp (K w.params) H xs a h4) fun w H s e s' z => by
    obtain ⟨_, _, _, _, _, _, _, _, _, _, q⟩ := z
    exact q
end SB
open PySem PySem.W PyProof.Rows
set_option maxRecDepth 100000 in
set_option maxHeartbeats 0 in
theorem PySem.Challenge.cw_stackback_s01_tree_holds : PySem.Challenge.rw_stackback_s01_tree.Holds := by
  w_on; k_headS; (case hw => exact ⟨[.int 0, .list []], by decide +kernel, by decide +kernel⟩)
  k_fillS
  refine SB.walk_x (r := PySem.Challenge.rw_stackback_s01_tree) (k := 67) (ps := ["n", "code"]) (sp := SB.spTree) (by decide +kernel) rfl rfl ⟨rfl, by decide, by decide⟩ (fun w h Y => PySem.W.kIn_of Y) ?jF ?jS
  case jF =>
    intro w mg fa h Y KX G hmg
    refine' SB.all_ok KX G hmg ?jcs ?jab ?jkd ?jh0 ?jh1 ?jh2 ?jh3 ?jh4 ?jh5 ?jh6 ?jh7 ?jh8 ?jh9 ?jh10 ?jh11 ?jh12 ?jh13 ?jh14 ?jh15 ?jh16 ?jh17 ?jh18 ?jh19 ?jh20 ?jh21 ?jh22 ?jh23 ?jh24 ?jh25 ?jh26 ?jh27 ?jhN ?jhC ?jhR ?jhX
    (case jcs => kernel_rfl)
    (case jab => kernel_rfl)
    (case jkd =>
      refine' SB.kdx KX G ?jd_a ?jd_l ?jd_s ?jd_e
      (case jd_a => k_is); (case jd_l => k_is); (case jd_s => rfl)
      exact ⟨⟨_, _, rfl, rfl⟩, rfl, ⟨_, _, rfl, rfl⟩, rfl, ⟨_, _, rfl, rfl⟩, rfl, ⟨_, _, rfl, rfl⟩, rfl, ⟨_, _, rfl, rfl⟩, rfl, ⟨_, _, rfl, rfl⟩, rfl, ⟨_, _, rfl, rfl⟩, rfl, trivial⟩)
    (case jh0 =>
      refine' SB.fnx SB.bd_kind_of KX G ?jh0_a ?jh0_l ?jh0_c ?jh0_k
      (case jh0_a => k_is); (case jh0_l => k_is); (case jh0_c => k_is); (case jh0_k => k_is))
    (case jh1 =>
      refine' SB.fnx SB.bd_place_of KX G ?jh1_a ?jh1_l ?jh1_c ?jh1_k
      (case jh1_a => k_is); (case jh1_l => k_is); (case jh1_c => k_is); (case jh1_k => k_is))
    (case jh2 =>
      refine' SB.fnx SB.bd_around_of KX G ?jh2_a ?jh2_l ?jh2_c ?jh2_k
      (case jh2_a => k_is); (case jh2_l => k_is); (case jh2_c => k_is); (case jh2_k => k_is))
    (case jh3 =>
      refine' SB.fnx SB.bd_name_of_read KX G ?jh3_a ?jh3_l ?jh3_c ?jh3_k
      (case jh3_a => k_is); (case jh3_l => k_is); (case jh3_c => k_is); (case jh3_k => k_is))
    (case jh4 =>
      refine' SB.fnx SB.bd_common_divisor KX G ?jh4_a ?jh4_l ?jh4_c ?jh4_k
      (case jh4_a => k_is); (case jh4_l => k_is); (case jh4_c => k_is); (case jh4_k => k_is))
    (case jh5 =>
      refine' SB.fnx SB.bd_is_right_pair KX G ?jh5_a ?jh5_l ?jh5_c ?jh5_k
      (case jh5_a => k_is); (case jh5_l => k_is); (case jh5_c => k_is); (case jh5_k => k_is))
    (case jh6 =>
      refine' SB.fnx SB.bd_signs_of KX G ?jh6_a ?jh6_l ?jh6_c ?jh6_k
      (case jh6_a => k_is); (case jh6_l => k_is); (case jh6_c => k_is); (case jh6_k => k_is))
    (case jh7 =>
      refine' SB.fnx SB.bd_wants_brackets KX G ?jh7_a ?jh7_l ?jh7_c ?jh7_k
      (case jh7_a => k_is); (case jh7_l => k_is); (case jh7_c => k_is); (case jh7_k => k_is))
    (case jh8 =>
      refine' SB.fnx SB.bd_nesting_of KX G ?jh8_a ?jh8_l ?jh8_c ?jh8_k
      (case jh8_a => k_is); (case jh8_l => k_is); (case jh8_c => k_is); (case jh8_k => k_is))
    (case jh9 =>
      refine' SB.fnx SB.bd_printed KX G ?jh9_a ?jh9_l ?jh9_c ?jh9_k
      (case jh9_a => k_is); (case jh9_l => k_is); (case jh9_c => k_is); (case jh9_k => k_is))
    (case jh10 =>
      refine' SB.fnx SB.bd_printed_part KX G ?jh10_a ?jh10_l ?jh10_c ?jh10_k
      (case jh10_a => k_is); (case jh10_l => k_is); (case jh10_c => k_is); (case jh10_k => k_is))
    (case jh11 =>
      refine' SB.fnx SB.bd_printed_number KX G ?jh11_a ?jh11_l ?jh11_c ?jh11_k
      (case jh11_a => k_is); (case jh11_l => k_is); (case jh11_c => k_is); (case jh11_k => k_is))
    (case jh12 =>
      refine' SB.fnx SB.bd_word_of KX G ?jh12_a ?jh12_l ?jh12_c ?jh12_k
      (case jh12_a => k_is); (case jh12_l => k_is); (case jh12_c => k_is); (case jh12_k => k_is))
    (case jh13 =>
      refine' SB.fnx SB.bd_printed_before KX G ?jh13_a ?jh13_l ?jh13_c ?jh13_k
      (case jh13_a => k_is); (case jh13_l => k_is); (case jh13_c => k_is); (case jh13_k => k_is))
    (case jh14 =>
      refine' SB.fnx SB.bd_joining_signs KX G ?jh14_a ?jh14_l ?jh14_c ?jh14_k
      (case jh14_a => k_is); (case jh14_l => k_is); (case jh14_c => k_is); (case jh14_k => k_is))
    (case jh15 =>
      refine' SB.fnx SB.bd_with_commas KX G ?jh15_a ?jh15_l ?jh15_c ?jh15_k
      (case jh15_a => k_is); (case jh15_l => k_is); (case jh15_c => k_is); (case jh15_k => k_is))
    (case jh16 =>
      refine' SB.fnx SB.bd_instructions_in KX G ?jh16_a ?jh16_l ?jh16_c ?jh16_k
      (case jh16_a => k_is); (case jh16_l => k_is); (case jh16_c => k_is); (case jh16_k => k_is))
    (case jh17 =>
      refine' SB.fnx SB.bd_is_right_instruction KX G ?jh17_a ?jh17_l ?jh17_c ?jh17_k
      (case jh17_a => k_is); (case jh17_l => k_is); (case jh17_c => k_is); (case jh17_k => k_is))
    (case jh18 =>
      refine' SB.fnx SB.bd_choices_of KX G ?jh18_a ?jh18_l ?jh18_c ?jh18_k
      (case jh18_a => k_is); (case jh18_l => k_is); (case jh18_c => k_is); (case jh18_k => k_is))
    (case jh19 =>
      refine' SB.fnx SB.bd_formula_node KX G ?jh19_a ?jh19_l ?jh19_c ?jh19_k
      (case jh19_a => k_is); (case jh19_l => k_is); (case jh19_c => k_is); (case jh19_k => k_is))
    (case jh20 =>
      refine' SB.fnx SB.bd_pick_node KX G ?jh20_a ?jh20_l ?jh20_c ?jh20_k
      (case jh20_a => k_is); (case jh20_l => k_is); (case jh20_c => k_is); (case jh20_k => k_is))
    (case jh21 =>
      refine' SB.fnx SB.bd_simple_expression_of KX G ?jh21_a ?jh21_l ?jh21_c ?jh21_k
      (case jh21_a => k_is); (case jh21_l => k_is); (case jh21_c => k_is); (case jh21_k => k_is))
    (case jh22 =>
      refine' SB.fnx SB.bd_check_parameters KX G ?jh22_a ?jh22_l ?jh22_c ?jh22_k
      (case jh22_a => k_is); (case jh22_l => k_is); (case jh22_c => k_is); (case jh22_k => k_is))
    (case jh23 =>
      refine' SB.fnx SB.bd_check_length KX G ?jh23_a ?jh23_l ?jh23_c ?jh23_k
      (case jh23_a => k_is); (case jh23_l => k_is); (case jh23_c => k_is); (case jh23_k => k_is))
    (case jh24 =>
      refine' SB.fnx SB.bd_check_depth KX G ?jh24_a ?jh24_l ?jh24_c ?jh24_k
      (case jh24_a => k_is); (case jh24_l => k_is); (case jh24_c => k_is); (case jh24_k => k_is))
    (case jh25 =>
      refine' SB.fnx SB.bd_taken_code KX G ?jh25_a ?jh25_l ?jh25_c ?jh25_k
      (case jh25_a => k_is); (case jh25_l => k_is); (case jh25_c => k_is); (case jh25_k => k_is))
    (case jh26 =>
      refine' SB.fnx SB.bd_done KX G ?jh26_a ?jh26_l ?jh26_c ?jh26_k
      (case jh26_a => k_is); (case jh26_l => k_is); (case jh26_c => k_is); (case jh26_k => k_is))
    (case jh27 =>
      refine' SB.fnx SB.bd_tree KX G ?jh27_a ?jh27_l ?jh27_c ?jh27_k
      (case jh27_a => k_is); (case jh27_l => k_is); (case jh27_c => k_is); (case jh27_k => k_is))
    (case jhN =>
      refine' ⟨_, SB.clx SB.bi_Node KX G ?jhN_aC ?jhN_pg ?jhN_hd ?jhN_po ?jhN_sa ?jhN_mk ?jhN_kc ?jhN_a ?jhN_i ?jhN_l ?jhN_c ?jhN_k, ?jhN_n0, ?jhN_n1, ?jhN_n2, ?jhN_n3⟩
      (case jhN_aC => k_is); (case jhN_pg => k_is); (case jhN_hd => k_is); (case jhN_po => k_is); (case jhN_sa => k_is); (case jhN_mk => k_is); (case jhN_kc => k_is); (case jhN_a => k_is); (case jhN_i => k_is); (case jhN_l => k_is); (case jhN_c => k_is); (case jhN_k => k_is)
      (case jhN_n0 => unfold L2.NoAttr; k_is); (case jhN_n1 => unfold L2.NoAttr; k_is); (case jhN_n2 => unfold L2.NoAttr; k_is); (case jhN_n3 => unfold L2.NoAttr; k_is))
    (case jhC =>
      refine' ⟨_, SB.clx SB.bi_Choice KX G ?jhC_aC ?jhC_pg ?jhC_hd ?jhC_po ?jhC_sa ?jhC_mk ?jhC_kc ?jhC_a ?jhC_i ?jhC_l ?jhC_c ?jhC_k, ?jhC_n0, ?jhC_n1, ?jhC_n2, ?jhC_n3, ?jhC_n4, ?jhC_n5, (SB.fmx SB.bm_limit ?ja_limit ?ji_limit ?jl_limit ?jc_limit ?jk_limit)⟩
      (case jhC_aC => k_is); (case jhC_pg => k_is); (case jhC_hd => k_is); (case jhC_po => k_is); (case jhC_sa => k_is); (case jhC_mk => k_is); (case jhC_kc => k_is); (case jhC_a => k_is); (case jhC_i => k_is); (case jhC_l => k_is); (case jhC_c => k_is); (case jhC_k => k_is)
      (case jhC_n0 => unfold L2.NoAttr; k_is); (case jhC_n1 => unfold L2.NoAttr; k_is); (case jhC_n2 => unfold L2.NoAttr; k_is); (case jhC_n3 => unfold L2.NoAttr; k_is); (case jhC_n4 => unfold L2.NoAttr; k_is); (case jhC_n5 => unfold L2.NoAttr; k_is)
      (case ja_limit => k_is); (case ji_limit => k_is); (case jl_limit => k_is); (case jc_limit => k_is); (case jk_limit => k_is))
    (case jhR =>
      refine' ⟨_, SB.clx SB.bi_Recovery KX G ?jhR_aC ?jhR_pg ?jhR_hd ?jhR_po ?jhR_sa ?jhR_mk ?jhR_kc ?jhR_a ?jhR_i ?jhR_l ?jhR_c ?jhR_k, ?jhR_n0, ?jhR_n1, ?jhR_n2, ?jhR_n3, (SB.fmx SB.bm_step ?ja_step ?ji_step ?jl_step ?jc_step ?jk_step), (SB.fmx SB.bm_free ?ja_free ?ji_free ?jl_free ?jc_free ?jk_free), (SB.fmx SB.bm_take_parts ?ja_take_parts ?ji_take_parts ?jl_take_parts ?jc_take_parts ?jk_take_parts), (SB.fmx SB.bm_take_only ?ja_take_only ?ji_take_only ?jl_take_only ?jc_take_only ?jk_take_only), (SB.fmx SB.bm_take_plain ?ja_take_plain ?ji_take_plain ?jl_take_plain ?jc_take_plain ?jk_take_plain), (SB.fmx SB.bm_plain_node ?ja_plain_node ?ji_plain_node ?jl_plain_node ?jc_plain_node ?jk_plain_node), (SB.fmx SB.bm_begin_choice ?ja_begin_choice ?ji_begin_choice ?jl_begin_choice ?jc_begin_choice ?jk_begin_choice), (SB.fmx SB.bm_go_on_choice ?ja_go_on_choice ?ji_go_on_choice ?jl_go_on_choice ?jc_go_on_choice ?jk_go_on_choice), (SB.fmx SB.bm_end_joining ?ja_end_joining ?ji_end_joining ?jl_end_joining ?jc_end_joining ?jk_end_joining), (SB.fmx SB.bm_place_of_nine ?ja_place_of_nine ?ji_place_of_nine ?jl_place_of_nine ?jc_place_of_nine ?jk_place_of_nine), (SB.fmx SB.bm_end_ifs ?ja_end_ifs ?ji_end_ifs ?jl_end_ifs ?jc_end_ifs ?jk_end_ifs)⟩
      (case jhR_aC => k_is); (case jhR_pg => k_is); (case jhR_hd => k_is); (case jhR_po => k_is); (case jhR_sa => k_is); (case jhR_mk => k_is); (case jhR_kc => k_is); (case jhR_a => k_is); (case jhR_i => k_is); (case jhR_l => k_is); (case jhR_c => k_is); (case jhR_k => k_is)
      (case jhR_n0 => unfold L2.NoAttr; k_is); (case jhR_n1 => unfold L2.NoAttr; k_is); (case jhR_n2 => unfold L2.NoAttr; k_is); (case jhR_n3 => unfold L2.NoAttr; k_is)
      (case ja_step => k_is); (case ji_step => k_is); (case jl_step => k_is); (case jc_step => k_is); (case jk_step => k_is)
      (case ja_free => k_is); (case ji_free => k_is); (case jl_free => k_is); (case jc_free => k_is); (case jk_free => k_is)
      (case ja_take_parts => k_is); (case ji_take_parts => k_is); (case jl_take_parts => k_is); (case jc_take_parts => k_is); (case jk_take_parts => k_is)
      (case ja_take_only => k_is); (case ji_take_only => k_is); (case jl_take_only => k_is); (case jc_take_only => k_is); (case jk_take_only => k_is)
      (case ja_take_plain => k_is); (case ji_take_plain => k_is); (case jl_take_plain => k_is); (case jc_take_plain => k_is); (case jk_take_plain => k_is)
      (case ja_plain_node => k_is); (case ji_plain_node => k_is); (case jl_plain_node => k_is); (case jc_plain_node => k_is); (case jk_plain_node => k_is)
      (case ja_begin_choice => k_is); (case ji_begin_choice => k_is); (case jl_begin_choice => k_is); (case jc_begin_choice => k_is); (case jk_begin_choice => k_is)
      (case ja_go_on_choice => k_is); (case ji_go_on_choice => k_is); (case jl_go_on_choice => k_is); (case jc_go_on_choice => k_is); (case jk_go_on_choice => k_is)
      (case ja_end_joining => k_is); (case ji_end_joining => k_is); (case jl_end_joining => k_is); (case jc_end_joining => k_is); (case jk_end_joining => k_is)
      (case ja_place_of_nine => k_is); (case ji_place_of_nine => k_is); (case jl_place_of_nine => k_is); (case jc_place_of_nine => k_is); (case jk_place_of_nine => k_is)
      (case ja_end_ifs => k_is); (case ji_end_ifs => k_is); (case jl_end_ifs => k_is); (case jc_end_ifs => k_is); (case jk_end_ifs => k_is))
    (case jhX =>
      refine' ⟨_, ⟨PySem.W.mg_of KX G ?jX_aR, _, _, ⟨?jX_ga, ?jX_rd, ?jX_at, ?jX_kp⟩, L2.fun_mk ?jX_l ?jX_c ?jX_k, L2.Fun.binds (L2.fun_mk ?jX_l ?jX_c ?jX_k) SB.bi_Refusal⟩, (SB.rfx SB.bi_WrongParameterCount KX G ?jaC_r0 ?jcls_r0 ?jkc_r0 ?ja_r0 ?ji_r0 ?jl_r0 ?jc_r0 ?jk_r0 ?jov_r0 ?jsa_r0 ?jtk_r0 ?jhd_r0 ?jga_r0 ?jgh_r0 ?jnn_r0 ?jex_r0), (SB.rfx SB.bi_CodeTooLong KX G ?jaC_r1 ?jcls_r1 ?jkc_r1 ?ja_r1 ?ji_r1 ?jl_r1 ?jc_r1 ?jk_r1 ?jov_r1 ?jsa_r1 ?jtk_r1 ?jhd_r1 ?jga_r1 ?jgh_r1 ?jnn_r1 ?jex_r1), (SB.rfx SB.bi_NoCode KX G ?jaC_r2 ?jcls_r2 ?jkc_r2 ?ja_r2 ?ji_r2 ?jl_r2 ?jc_r2 ?jk_r2 ?jov_r2 ?jsa_r2 ?jtk_r2 ?jhd_r2 ?jga_r2 ?jgh_r2 ?jnn_r2 ?jex_r2), (SB.rfx SB.bi_CodeTooDeep KX G ?jaC_r3 ?jcls_r3 ?jkc_r3 ?ja_r3 ?ji_r3 ?jl_r3 ?jc_r3 ?jk_r3 ?jov_r3 ?jsa_r3 ?jtk_r3 ?jhd_r3 ?jga_r3 ?jgh_r3 ?jnn_r3 ?jex_r3)⟩
      (case jX_aR => k_is); (case jX_ga => k_is); (case jX_rd => k_is); (case jX_at => k_is); (case jX_kp => k_is); (case jX_l => k_is); (case jX_c => k_is); (case jX_k => k_is)
      (case jaC_r0 => k_is)
      (case jcls_r0 =>
        refine' SB.xcx ?jlk_r0 ?je1_r0 ?je2_r0 ?je3_r0 ?je4_r0
        (case jlk_r0 => k_is)
        all_goals kernel_rfl)
      (case jkc_r0 => k_is); (case ja_r0 => k_is); (case ji_r0 => k_is); (case jl_r0 => k_is); (case jc_r0 => k_is); (case jk_r0 => k_is)
      (case jov_r0 => kernel_rfl); (case jsa_r0 => k_is); (case jtk_r0 => k_is); (case jhd_r0 => k_is); (case jga_r0 => k_is); (case jgh_r0 => k_is); (case jnn_r0 => k_is); (case jex_r0 => kernel_rfl)
      (case jaC_r1 => k_is)
      (case jcls_r1 =>
        refine' SB.xcx ?jlk_r1 ?je1_r1 ?je2_r1 ?je3_r1 ?je4_r1
        (case jlk_r1 => k_is)
        all_goals kernel_rfl)
      (case jkc_r1 => k_is); (case ja_r1 => k_is); (case ji_r1 => k_is); (case jl_r1 => k_is); (case jc_r1 => k_is); (case jk_r1 => k_is)
      (case jov_r1 => kernel_rfl); (case jsa_r1 => k_is); (case jtk_r1 => k_is); (case jhd_r1 => k_is); (case jga_r1 => k_is); (case jgh_r1 => k_is); (case jnn_r1 => k_is); (case jex_r1 => kernel_rfl)
      (case jaC_r2 => k_is)
      (case jcls_r2 =>
        refine' SB.xcx ?jlk_r2 ?je1_r2 ?je2_r2 ?je3_r2 ?je4_r2
        (case jlk_r2 => k_is)
        all_goals kernel_rfl)
      (case jkc_r2 => k_is); (case ja_r2 => k_is); (case ji_r2 => k_is); (case jl_r2 => k_is); (case jc_r2 => k_is); (case jk_r2 => k_is)
      (case jov_r2 => kernel_rfl); (case jsa_r2 => k_is); (case jtk_r2 => k_is); (case jhd_r2 => k_is); (case jga_r2 => k_is); (case jgh_r2 => k_is); (case jnn_r2 => k_is); (case jex_r2 => kernel_rfl)
      (case jaC_r3 => k_is)
      (case jcls_r3 =>
        refine' SB.xcx ?jlk_r3 ?je1_r3 ?je2_r3 ?je3_r3 ?je4_r3
        (case jlk_r3 => k_is)
        all_goals kernel_rfl)
      (case jkc_r3 => k_is); (case ja_r3 => k_is); (case ji_r3 => k_is); (case jl_r3 => k_is); (case jc_r3 => k_is); (case jk_r3 => k_is)
      (case jov_r3 => kernel_rfl); (case jsa_r3 => k_is); (case jtk_r3 => k_is); (case jhd_r3 => k_is); (case jga_r3 => k_is); (case jgh_r3 => k_is); (case jnn_r3 => k_is); (case jex_r3 => kernel_rfl))
  case jS =>
    intro K H xs a hx
    cases hx with
    | cons h1 h2 =>
      cases h2 with
      | cons h2 h3 =>
        cases h3
        cases h1
        cases h2 with
        | lst hs ha =>
          have e := L2.ints_dw a.2.1 _ ha
          subst e
          exact ⟨_, _, a.2.1, rfl, hs, fun l H' _ _ hl => .lst (L2.SqL.of hl) (L2.dw_ints _)⟩
#print axioms PySem.Challenge.cw_stackback_s01_tree_holds
end
