import PyProof.Rows.All
import Wide.All
import OpenK.AllK
import Wide.FinOn
import PyProof.EqAt
import PyProof.EqKinds
import PyProof.TupleCall
import KE.BitLaws
import PyProof.ExcInit
import PyProof.ExcClass3
import PyProof.ExcBaseAll.Exception
import PyProof.InstStoreFacts
import PyProof.ExcArgs
import KE.KTryMore
import Open.SpecLaws
import KE.OsHead
import KE.OsGo
import VbdeamSpec
import PySem.Challenge.RW_stackback_s02_code
import PyVbdeam
import KE.IntTextLaws
import PyProof.NeKinds
set_option linter.all false
set_option bootstrap.genMatcherCode false
set_option maxRecDepth 100000
set_option Elab.async false
set_option maxHeartbeats 4000000
noncomputable def am:=@List.mem_cons_of_mem
noncomputable def ap:=@List.length_map
noncomputable def b':=@List.mem_cons_self
noncomputable def cr:=@List.length_cons
noncomputable def f':=@Nat.le_refl
noncomputable def gc:=@List.length_append
noncomputable def hU:=@List.mem_cons
noncomputable def hZ:=@List.getElem?_eq_some_iff
noncomputable def ia:=@Bool.and_eq_true
noncomputable def ib:=@List.size_toArray
noncomputable def ic:=@Nat.lt_of_lt_of_le
noncomputable def ii:=@List.getElem?_eq_getElem
noncomputable def ij:=@List.length_take
noncomputable def im:=@List.append_assoc
noncomputable def ip:=@Bool.false_ne_true
noncomputable def iq:=@Nat.le_trans
noncomputable def iA:=@List.length_nil
noncomputable def iE:=@List.getElem?_map
noncomputable def iN:=@List.not_mem_nil
noncomputable def iO:=@Nat.lt_of_le_of_lt
noncomputable def i2:=@Bool.eq_iff_iff
noncomputable def i3:=@List.cons_append
noncomputable def i4:=@Nat.ne_of_lt
noncomputable def i6:=@List.map_cons
noncomputable def i8:=@List.append_nil
noncomputable def i9:=@decide_eq_true
noncomputable def js:=@if_neg
noncomputable def jv:=@of_decide_eq_true
noncomputable def jI:=@decide_eq_true_eq
noncomputable def j4:=@if_pos
noncomputable def j5:=@decide_eq_false
noncomputable def j6:=@List.all_eq_true
noncomputable def j':=@List.mem_of_getElem?
noncomputable def ka:=@List.mem_range
noncomputable def kb:=@List.map_append
noncomputable def kc:=@List.getElem?_cons_succ
noncomputable def ke:=@List.getElem?_cons_zero
noncomputable def kg:=@List.length_drop
structure PySem.W.Fast:Prop where(tw10926677136576878501 tw4384355098605346937 tw15045543331406949505 tw15949752096181021152 tw15916178998046639556 tw11467889455393316624 tw115667759201710059 tw13376242574973524153 tw3272903048267592191 tw4168763975130387093 tw7394159838618095029 tw16603535371776375687 tw12445694998294296291 tw8508640822467420846 tw6559215397648993134 tw645786056339363966 tw5276142421199561283 tw17655958541651958751 tw303201030649282292 tw13957385113537133715 tw9349785972363966136 tw344574630851414417 tw14704310137370077577 tw11648086676429949892 tw5858057381862015755 tw1904696087124786449 tw3468860032801472430 tw14859014258689190656 tw1561385445821536389 tw3546856674472585781 tw6149031560589923826 tw1934144161068660274 tw752430543798179079 tw2377963278633451134 tw18352828404325366021 tw9126020985218141503 tw17382249122995825190 tw15407266150049104984 tw16764464413964660636 tw16033700781317928950 tw13234848767517455712 tw18290104081959097884 tw9064279018873870830 tw5290410703700580506 tw16327377278568810844 tw14475749083932613636 tw6168801911312902602 tw10310392486124569845 tw17733631014110814640 tw17042033625534947062 tw3698219717636782988 tw8649902771946430095 tw16918366995368444257 tw4963836269746099098 tw2268331717095762298 tw5019774956841476452 tw1416259663240277073 tw553396941808573991 tw14985197303872090756 tw7892493283803073929 tw7655722065896498200 tw6297608384561605760 tw14695490321186489134 tw10465502888990279152 tw2663983027294131945 tw7751356080424232770 tw17565902291800257114 tw10533668170212975318 tw2075384721545002266 tw2770487142924494890 tw4536919801568947976 tw9310384388053443821 tw3779966052221712900 tw12613755304259438772 tw2193199628231532463 tw5321873093650244643 tw17042515977973530027 tw6310774094854579453 tw6992063769274468903 tw1681307866402125986 tw7264481600239413028 tw18223735211625691259 tw1898250826581783690 tw1934527243521578026 tw16244871925238943894 tw10027388548692996179 tw9542405002261071975 tw16639283118337715173 tw10497132730290984150 tw8984367826066466123 tw7715636128440840968 tw11889172141506256648 tw12924552826520824531 tw6672238202338062908 tw666589938360975312 tw18393696394288765346 tw1064590409549265159 tw11289368762381262486 tw13479692314730483368 tw16196205860041441081 tw14164152836899127293 tw17046215131240863784 tw9426990268498561083 tw10909886855531504590 tw6313603884000049560 tw9067856941200753705 tw831800820413833311 tw14146230966073559563 tw3086824706623311926 tw10568352830562400180 tw17618121707136914773 tw13215995310637458018 tw3879709963241297990 tw2347107585343926101 tw13660989891812380103 tw1972256199697707953 tw17515167829981103869 tw4074820049447106061 tw16974096240326600765 tw470905650251568972 tw15369253140397250588 tw18252455298762272851 tw18277617387539596726 tw8401207840673651812 tw12681201879801835433 tw16534755566497644795 tw14907778946531602659 tw16323650077645261245 tw6013095426362979811 tw2468987275735971196 tw2376529416421374226 tw5176173040785073730 tw16575737630020055845 tw17203828958054556296 tw12428896650458671781 tw9366558255408287406 tw11391224915217426994 tw3224565859760879155 tw6266413235779966495 tw3224515791552406544 tw4655026286715073687 tw1155395825096109593 tw4322503764145033392 tw12180516195315314330 tw3535837550456725487 tw10271491245260237640 tw997049360912702146 tw8802851569675165645 tw2396559227468321503 tw1541301467857120738 tw12199792730148026094 tw6446162396934437588 tw1626694429219086208 tw15999250858197600673 tw811433487455611281 tw5720333763159185962 tw3994496522136948342 tw262080044673144957 tw13015613907372728065 tw7043053207695386811 tw7950864782381171323 tw13359220541670299553 tw9388533675893158621 tw5639924242443899580 tw897779080162878200 tw8511351899402070685 tw14325617047296675876 tw13495264782923175 tw9337068450847572704 tw11282508816854472347 tw17298355302087075019 tw8530177272820936688 tw15974979819140402663 tw14242072675201771982 tw4779608341433546681 tw1746618140655436231 tw12006493381680447071 tw14202952013655030624 tw7745941405509804572 tw6256103285515589976 tw4733246935849088789 tw5669574279233969787 tw914344831807755792 tw13296301516023989547 tw5604048378166665732 tw8239245537077788259 tw9538467119531255480 tw15578908677633192133 tw9747375834039267460 tw5895903707605445844 tw6513072163441764147 tw15740350413586982738 tw10488396679362975849 tw2894116140514585664 tw12484065956359719588 tw55538888057329752 tw1590442288578363407 tw17575852172547695845 tw10764225122507042443 tw14748135803795904922 tw564314244490135484 tw5478772602987773137 tw10163140567669130656 tw5972146414096011864 tw9718812436956886658 tw9200879637581798118 tw6558241525224991103 tw4978939970419483070 tw6804454616819490456 tw14197671876274785023 tw6947180091146510699 tw15805474604085636892 tw4147912871356045181 tw14546843845282529446 tw386744798957971084 tw1263610709042037271 tw15707862336623926893 tw7081026647874077267 tw395811777954485667 tw4042352297111173341 tw5748761788343868945 tw5085726050177491365 tw3725658920837909878 tw9407721677735932079 tw12973287350891385846 tw3281836229543691151 tw1329255288290068053 tw10645638855520567877 tw9134990394055982135 tw11066328584157578182 tw7492468935443480241 tw7070952746182478785 tw8012623469449358773 tw1308499352701377221 tw855993865611533507 tw5999994323178412500 tw2512297967959774556 tw5661937058964606410 tw11525426037498840925 tw11174341404532190110 tw4181260369478097713 tw1044753635593220747 tw13187916268793387773 tw14850813492312793734 tw10219076845623143830 tw3533142231471166875 tw13939537371959967440 tw5206731450303710493 tw14169922165127857581 tw8354020401591909322 tw5628033907187759480 tw15690075613626887008 tw15787219794695658624 tw4368201418331524872 tw13289225888056129079 tw1919271779292150917 tw13713348063613510905 tw1877689040033674582 tw4362531803848184684 tw13988000178932533594 tw8485326329140530621 tw13228110678095882347 tw14557321582557396298 tw5339226127193535235 tw15854225861753651153 tw14162651502938687996 tw17427407045946973036 tw7904952189568097737 tw14444916914052211109 tw163946566704408 tw3778060732423026173 tw17629278344523467880 tw13230700736346905628 tw11127840219592038710 tw4795907518818268126 tw18030210303464876676 tw2319997465037852396 tw3190198267400421626 tw11797648683543225348 tw3326098460022400417 tw6061167240144363781 tw6404057826410362221 tw4023405019900793272 tw4441486975219409698 tw5881239404021228814 tw5196005286406194933 tw3225966075949101129 tw7805506426208050775 tw8960680736671010904 tw1676384646216594707 tw7926670122764721498 tw17808431359491000010 tw8780884943380706354 tw15132682052739780042 tw4825755285326208953 tw15526054150316778828 tw1027795488068660509 tw14333934338613430509 tw16263443075546765957 tw1366377820893222798 tw18090695429629984604 tw2596269602723961869 tw13702936505353480664 tw9668075127390270431 tw11887964153639993104 tw15900254471437999043 tw13263708946909184272 tw7586663505793399828 tw2174072100615355858 tw15659705371786913313 tw2104808090631088471 tw13033800992408771724 tw4994317467527751003 tw6216352804871701783 tw12892984425843511388 tw15891895663807181718 tw171716455854429731 tw16908559372772302924 tw6756706122421278859 tw7010204431171073563 tw14459018199282257262 tw2226305101581198861 tw17759306494539278918 tw11007257062663656536 tw8791415541850951710 tw16517148536834935903 tw12566952637587959859 tw16395120348096876680 tw5325363497262508563 tw9470626686671012924 tw9791206520759396755 tw5610234339673228855 tw17952892407422251668 tw9147951707600832447 tw2270835159948683727 tw12286442053496841858 tw15410119561991783601 tw2509650620494382159 tw15664608380068222280 tw17646984006880509285 tw17975379764530781528 tw2983715862102622477 tw17053787368864729784 tw13688401032480385365 tw10198881758322003149 tw6564717383290620700 tw10417825203983270499 tw1013540317725661672 tw14276012972892032801 tw53885417264241720 tw9507172601670297774 tw15336824059527965547 tw18340105899865136870 tw4164966584521365608 tw17415988510057239242 tw12220990837939001725 tw11280360806200600858 tw15746263827318784492 tw5354614243942790962 tw7681386329311193126 tw8701368276237541405 tw13353062075502293322 tw8344181693998640937 tw15705213223217138122 tw12459261801621785727 tw16402821679729048860 tw12233625416403300985 tw898277093418134385 tw4241788970609297518 tw1964337564797664935 tw8042826168875355385 tw3303539228398332896 tw17067376917081744765 tw6567575410050246430 tw5853741626951084837 tw8102841966203550590 tw4426754145112778794 tw18189785869160129579 tw1704855112769845728 tw15592907793763803618 tw14560066863070771156 tw5573773116715065178 tw4526654110975534149 tw5172815949788147152 tw2038658540777754932 tw14280710584620315124 tw3420085772904693993 tw9993097336538455400 tw12664036758179875467 tw8870004387631918683 tw17458830905256523108 tw4759681540420296301 tw5296438870122509016 tw16461921410920245557 tw10396503933361488037 tw12947887875226375650 tw13174283050538652112 tw10821002576442584313 tw15297735679404874772 tw13506008413163025687 tw14087655625483844455 tw6746526114165801878 tw11080409756721928291 tw568854034585041606 tw9525293308977270678 tw626914031290941302 tw12393513759303445651 tw13429307639519849790 tw952134895377996488 tw3502706829715798550 tw10156529144492997747 tw12903602254801293807 tw13838756763411538301 tw3040350878116233738 tw11577785729750861478 tw2124697098209167374 tw11103102682126948509 tw12762279491267278880 tw14720113371937167174 tw5311101286002990888 tw9260815128468486904 tw2266266335645805160 tw3581991753371043648 tw805209516178219082 tw15168303248725374543 tw13862620835569876187 tw11401916406592806670 tw15709339150913675042 tw1921458297328991862 tw3309373628619019131 tw8837541819957539340 tw7958837782447345050 tw13552814102092488802 tw7559780180892613441 tw12416964537943700000 tw18128867376242102561 tw5652289972999018135 tw14036368539403329364 tw14436156257959038306 tw16691175762581355322 tw15179931265568310240 tw7971037064852791957 tw3243377670589714640 tw1385044145811704083 tw9488430289317234362 tw11502926027162888924 tw15581059965315249888 tw14200642238943509772 tw18182896222188927441 tw12373000489347935932 tw16836173100016502150 tw17897765068954395640 tw1998265078186932497 tw99364612896107125 tw16361450003807434324 tw15082031874136016316 tw14199679429379583859 tw17889972855065547689 tw11789203832825348484 tw10834214126357661942 tw612470842650931959 tw6061638488467549096 tw3505584322871113756 tw3560491139002175409 tw13044299261548004680 tw5477066213389646964 tw10601627451206260634 tw17516176027254363702 tw12180011273499434822 tw16529794941780645853 tw17508012383661567076 tw11785345654825325100 tw17424863887543372316 tw7304685654059337291 tw15244929646957129689 tw14155242306852346912 tw12040423600722082458 tw8256409115934005189 tw7372398810505790040 tw14157395691758857274 tw15522717874279759513 tw16356649255986489325 tw10318251874058310573 tw17386080290180097035 tw12350578683543721210 tw7094574338661203830 tw12283158065972398853 tw7248551587652764460 tw13077811291795749749 tw4591466617251491816 tw14266999848886479983 tw4118400360618700180 tw6622481195128819913 tw10666408642362376863 tw12785769934452094962 tw1746940192935582473 tw1537561443355292507 tw15459566759556329795 tw15752154698020477313 tw6465469546060073129 tw2902304404557505105 tw2814919331326237345 tw7542210902656265173 tw8677933100182814900 tw10597085018280321230 tw7592568986051987273 tw16270136821294868049 tw12969898696253062910 tw12683289003697555152 tw15573595123588626191 tw11002874046108201141 tw9637413331276461824 tw15808328210757630619 tw11262023533008669400 tw12921126424733103490 tw16770235197653645865 tw2069868991307836453 tw9176454184064038460 tw11245712406638401900 tw17340626431093698212 tw16538571201318913866 tw8642164009709710705 tw8467241505198191566 tw15484464098951763042 tw13980983421580911434 tw2774100952496670754 tw15354467250509706809 tw814638797428090154 tw14350116221494347797 tw841354727253740165 tw16873103955291954435 tw8088286788118675048 tw3425183951035029464 tw860958733781986987 tw5027126887033948875 tw3840374119223561533 tw1949653391639373782 tw11962492933160967118 tw14615178498489920616 tw2744808522766305865 tw9865374484846065149 tw5191299116155940387 tw17700000037848449016 tw11292487952659230826 tw17872841959831936206 tw6174857720326824282 tw724694173541811289 tw6730872783740267173 tw7130897722557707489 tw5689315981690114566 tw373597203028790371 tw1164571815629979430 tw11214291249346952962 tw8618440457342504183 tw7630793967491324671 tw9936915112512562879 tw17574223576596629149 tw713865772264124201 tw13523700310263651726 tw16917102923858381286 tw14404222294584025931 tw14885311047417709713 tw14320006185413166285 tw907399093634979715 tw7274165026862947387 tw12307585437140013947 tw3501139525896135289 tw17330085630781049551 tw6811917752982549281 tw15430701132784694974 tw5093275052480108720 tw9940566558492215805 tw17476661835098663151 tw18183173910054795061 tw17631220319659446645 tw1695952274890645463 tw3716598304612427302 tw9224868137243723665 tw714568735812497941 tw13546385663545570732 tw9514849699546744766 tw18173749246261678354 tw11999503766321546 tw518034251938784565 tw938819584583409373 tw7582348322244336814 tw18321235153264170240 tw2358473538618111911 tw15540838452591871186 tw10828399522726785882 tw10499472058534996783 tw5672717800145528653 tw2581341570208221030 tw15228706795861399371 tw17438379346921757354 tw13289804160558993957 tw15058903268735320729 tw16660389679944809996 tw7417931161053584256 tw6242607365322692777 tw4327381929731067787 tw5392223027664991239 tw294822682938456674 tw13845389931353879233 tw5107651071383363400 tw550117950987470663 tw4343369607541738621 tw9927857899521391160 tw7645212047799533597 tw12218587499701837642 tw13403459741728311378 tw5687979542773492195 tw15702158524776590062 tw11936228129915415503 tw1238730450291179847 tw5721866412268001716 tw11634904982514480736 tw18122490656541995993 tw17394606071503618063 tw6357660436511067975 tw5664059662517788023 tw15059786740268345450 tw6966204778150413385 tw17196405363963684569 tw16313315506735166084 tw10383778135364738480 tw17797837028065515423 tw13356033448119577609 tw12102133354061445409 tw4288245300585681428 tw9748552425015007761 tw17800245054415273338 tw4382863488002921595 tw17733174838507554297 tw5549889244301864344 tw8773225561662109724 tw7101728057315434329 tw16856074143255142233 tw3142464719540894091 tw6602743180141075074 tw7933362609593724181 tw16106715512362563733 tw12457341759496640654 tw3856682815194374990 tw7178700291627979870 tw16242108790314759162 tw5434600490464137127 tw12655436524755196642 tw4851475085943112584 tw8253630095019821460 tw3397749436202176692 tw2521278942964082103 tw251473686483757616 tw89573383834327002 tw10973105384681509084 tw14545059134415168469 tw9001723019654792981 tw5926970693051592761 tw3103319494062007244 tw11982122440096744688 tw13727743098525806034 tw7953016283700795082 tw5527512871060288642 tw14172434477590732897 tw10357626301415148687 tw1743444727478378026 tw12695269172556207036 tw1971751113060124375 tw2615594642809048520 tw17430856122071135709 tw3635022223402733618 tw6921791645138532209 tw3090023214134359494 tw6570162122294548014 tw8857969455328703350 tw4798647637961761696 tw17105833324701992355 tw9123552740943299256 tw6506274219742002123 tw15297908077944732901 tw825750104614400290 tw6724954404409915193 tw17296639540671945421 tw15785178530728667289 tw12653786834411737244 tw15979373452005754639 tw8287108394779858182 tw9207555805080397130 tw11542546740946033640 tw16131116393673225521 tw2773900360802286481 tw14587532411654643421:True)
section
-- CHANGE: your row's module here,as the last of these rows
namespace L2
open PySem PySem.Spec PyProof.Rows
noncomputable abbrev Key:=Sum Int Str
noncomputable def vO:Key→Value→Bool
 | .inl k,v=>Value.isInt k v
 | .inr x,v=>Value.isStrOf x v
noncomputable def Uy(w:World):Key→Int
 | .inl k=>hashInt k
 | .inr x=>hashStr w x
theorem cM:∀{k:Key}{v:Value},vO k v=true→(∃i t,k=Sum.inl i∧v=Value.int i t)∨(∃x t,k=Sum.inr x∧v=Value.str x t)
 | .inl i,v,h=>by
  obtain⟨t,e⟩:=Value.isInt_shape (k:=i) (v:=v) h
  exact .inl ⟨i,t,rfl,e⟩
 | .inr x,v,h=>by
  obtain⟨t,e⟩:=Value.isStrOf_shape (x:=x) (v:=v) h
  exact .inr ⟨x,t,rfl,e⟩
theorem G5(i:Int)(t:Tok):vO (.inl i) (.int i t)=true:=by simp[vO,Value.isInt]
theorem GZ(x:Str)(t:Tok):vO (.inr x) (.str x t)=true:=by simp[vO,Value.isStrOf]
theorem Sq(a b:Int):decide ((Sum.inl a:Key)=Sum.inl b)=(a==b):=by
 by_cases e:a=b
 ·subst e;simp
 ·have h:¬(Sum.inl a:Key)=Sum.inl b:=fun q=>e (Sum.inl.inj q)
  rw[j5 h]
  exact(beq_eq_false_iff_ne.mpr e).symm
theorem Lp(a b:Str):decide ((Sum.inr a:Key)=Sum.inr b)=decide (a=b):=by
 by_cases e:a=b
 ·subst e;simp
 ·have h:¬(Sum.inr a:Key)=Sum.inr b:=fun q=>e (Sum.inr.inj q)
  rw[j5 h,j5 e]
theorem Sh(a:Int)(b:Str):decide ((Sum.inl a:Key)=Sum.inr b)=false:=j5 (fun q=>nomatch q)
theorem Sg(a:Str)(b:Int):decide ((Sum.inr a:Key)=Sum.inl b)=false:=j5 (fun q=>nomatch q)
noncomputable def cJ(prog:Program)(w:World):PySem.KeyKind prog w Key where
 is:=vO
 hash:=Uy w
 inj:=fun v a b F D=>by
  rcases cM F with⟨i,t,rfl,rfl⟩ | ⟨x,t,rfl,rfl⟩
  ·rcases cM D with⟨j,u,rfl,e⟩ | ⟨y,u,rfl,e⟩
   ·injection e with e1 _;rw[e1]
   ·exact nomatch e
  ·rcases cM D with⟨j,u,rfl,e⟩ | ⟨y,u,rfl,e⟩
   ·exact nomatch e
   ·injection e with e1 _;rw[e1]
 byValue:=fun k v h=>by
  rcases cM h with⟨i,t,rfl,rfl⟩ | ⟨x,t,rfl,rfl⟩<;>rfl
 pyHash:=fun z h=>by
  rcases cM z with⟨i,t,rfl,rfl⟩ | ⟨x,t,rfl,rfl⟩
  ·exact wpAny_pyHash_int h
  ·exact wpAny_pyHash_str h
 eqBool:=fun G z h=>by
  rcases cM G with⟨i,t,rfl,rfl⟩ | ⟨x,t,rfl,rfl⟩
  ·rcases cM z with⟨j,u,rfl,rfl⟩ | ⟨y,u,rfl,rfl⟩
   ·rw[Sq]at h;exact wpAny_eqBool_int h
   ·rw[Sh]at h;exact SeqAt.EqAt.int_str i t y u _ _ _ _ h
  ·rcases cM z with⟨j,u,rfl,rfl⟩ | ⟨y,u,rfl,rfl⟩
   ·rw[Sg]at h;exact SeqAt.EqAt.str_int x t j u _ _ _ _ h
   ·rw[Lp]at h;exact wpAny_eqBool_str h
 «strs»:=fun k x t v h=>by
  rcases cM h with⟨i,u,rfl,e⟩ | ⟨y,u,rfl,e⟩
  ·exact nomatch e
  ·injection e with e1 _
   subst e1
   cases v<;>rfl
theorem kh(prog:Program)(w:World)(i:Int)(t:Tok):(cJ prog w).is (.inl i) (.int i t)=true:=G5 i t
theorem j_(prog:Program)(w:World)(x:Str)(t:Tok):(cJ prog w).is (.inr x) (.str x t)=true:=GZ x t
end L2
namespace L2
open PySem PySem.Spec PyProof.Rows
inductive V where
 | non | bl (b:Bool) | int (i:Int) | str (x:Str) | byt (b:Array UInt8) | flt (b:UInt64) | ref (a:Addr) | ty (n:String)
 deriving DecidableEq
noncomputable def RelV:V→Value→Prop
 | .non,u=>u=Value.none
 | .bl b,u=>u=Value.bool b
 | .int i,u=>∃t,u=Value.int i t
 | .str x,u=>∃t,u=Value.str x t
 | .byt b,u=>∃t,u=Value.bytes b t
 | .flt b,u=>∃t,u=Value.float b t
 | .ref a,u=>u=Value.ref a
 | .ty n,u=>u=Value.type n
noncomputable abbrev Vals:List V→List Value→Prop:=Paired RelV
theorem Vals.length{xs:List V}{us:List Value}(r:Vals xs us):xs.length=us.length:=Paired.length r
theorem Vals.get:∀{xs:List V}{us:List Value}{i:Nat}{x:V},Vals xs us→xs[i]?=some x→∃u,us[i]?=some u∧RelV x u
 | _,_,_,_,.nil,e=>by simp at e
 | _,_,0,_,.cons r _,e=>by simp at e;subst e;exact⟨_,rfl,r⟩
 | _,_,i+1,x,.cons _ t,e=>by
  obtain⟨u,h1,h2⟩:=Vals.get (i:=i) (x:=x) t (by simpa using e)
  exact⟨u,by simpa using h1,h2⟩
theorem Vals.append:∀{xs ys:List V}{us j:List Value},Vals xs us→Vals ys j→Vals (xs++ys) (us++j)
 | _,_,_,_,.nil,s=>s
 | _,_,_,_,.cons r t,s=>.cons r (Vals.append t s)
theorem Vals.take:∀{xs:List V}{us:List Value}(n:Nat),Vals xs us→Vals (xs.take n) (us.take n)
 | _,_,0,_=>.nil
 | _,_,_+1,.nil=>.nil
 | _,_,n+1,.cons r t=>.cons r (Vals.take n t)
theorem Vals.drop:∀{xs:List V}{us:List Value}(n:Nat),Vals xs us→Vals (xs.drop n) (us.drop n)
 | _,_,0,r=>r
 | _,_,_+1,.nil=>.nil
 | _,_,n+1,.cons _ t=>Vals.drop n t
noncomputable def n_:Option V→Option Value→Prop
 | some v,some u=>RelV v u
 | none,none=>True
 | _,_=>False
noncomputable def KV{κ:Type}:List (κ×V)→List (κ×Value)→Prop:=Paired fun(p:κ×V)(q:κ×Value)=>p.1=q.1∧RelV p.2 q.2
noncomputable def kV:Key→V
 | .inl i=>.int i
 | .inr x=>.str x
inductive HO where
 | lst (xs:List V)
 | tup (xs:List V)
 | dK (kvs:List (Key×V)) | dT (kvs:List (List Key×V))
 | set (S:Int→Bool) (n:Nat)
 | ins (C dx:Addr) (fs:List (Str×V))
 | own (x:Addr)
 | xd (fs:List (Str×V))
 | met (f x:Addr)
 | rng (lo hi:Int)
 | frz (o:Obj) (u:HO)
 | tbl (ps:Array Value)
 | ext (φ:Heap→Prop)
noncomputable abbrev Hp:=Addr→Option HO
noncomputable def upd(H:Hp)(a:Addr)(o:HO):Hp:=fun b=>if b=a then some o else H b
theorem ak{H:Hp}{a:Addr}{o:HO}:upd H a o a=some o:=by unfold upd;rw[j4 rfl]
theorem az{H:Hp}{a b:Addr}{o:HO}(h:b≠a):upd H a o b=H b:=by unfold upd;rw[js h]
theorem qL{H:Hp}{a b:Addr}{o u:HO}(h:H a=some o)(h':H b=some u)(d:o≠u):a≠b:=by
 intro e;subst e;rw[h]at h';exact d (Option.some.inj h')
theorem aH{H:Hp}{a b:Addr}{o:HO}(h:H a=some o)(h':H b=none):a≠b:=by
 intro e;subst e;rw[h]at h';cases h'
section
variable (P:Program) (w:World)
noncomputable def cV(H:Hp)(h:Heap)(a:Addr):HO→Prop
 | .lst xs=>xs.length≤sizeLine∧∃(its:List Value)(n:Nat),Vals xs its∧h.get? a=some { cls:=.type "list",data:=.seq its.toArray n }
 | .tup xs=>xs.length≤sizeLine∧∃its:List Value,Vals xs its∧IsTup h a its.toArray
 | .dK kvs=>kvs.length≤sizeLine∧(a==sysModules)=false∧∃vs,KV kvs vs∧h.DictOf (cJ P w) a vs
 | .dT kvs=>kvs.length≤sizeLine∧(a==sysModules)=false∧∃xs:List (List Key×Addr×Value),
   Paired (fun(p:List Key×V)(q:List Key×Addr×Value)=>p.1=q.1∧H q.2.1=some (.tup (p.1.map kV))∧RelV p.2 q.2.2) kvs xs ∧
   ∃o es ep,h.get? a=some o∧o.ExactDict∧o.data=.dict es ep∧es.toList=xs.map (entryOfKey (tupleKind (cJ P w)))∧(xs.map (·.1)).Nodup
 | .set S n=>h.SetOf (intKind P w) a S n
 | .ins C dx fs=>H dx=some (.own a)∧fs.length≤1000∧dx≠a∧h.get? a=some (PySem.W.instObj C dx) ∧
   ∃mA,h.Ns1 dx mA∧(∀f,n_ (fs.lookup f) (mA f))∧PySem.Within mA (fs.map (·.1))
 | .own _=>∃o,h.get? a=some o
 | .xd fs=>∃mA,h.Ns1 a mA∧∀f,n_ (fs.lookup f) (mA f)
 | .rng lo hi=>∃t u v,h.get? a=some { cls:=.type "range",data:=.fields #[.int lo t,.int hi u,.int 1 v] }
 | .frz o u=>h.get? a=some o∧cV H h a u
 | .tbl ps=>h.get? a=some { cls:=.none,data:=.fields ps }
 | .met f x=>h.get? a=some (PySem.W.methodObj (.ref f) (.ref x))
 | .ext φ=>φ h∧(∃o,h.get? a=some o)∧∀h1 h2:Heap,φ h1→(∀o,h1.get? a=some o→h2.get? a=some o)→φ h2
noncomputable def mY(H:Hp)(h:Heap):Prop:=∀a o,H a=some o→cV P w H h a o
end
section
variable {P:Program} {w:World} {H H':Hp} {h h':Heap} {a:Addr} {o:HO}
theorem cV.lt(x:cV P w H h a o):a<h.objs.size:=by
 cases o with
 | lst xs=>obtain⟨_,_,_,_,e⟩:=x;exact Heap.lt_size e
 | tup xs=>obtain⟨_,_,_,p⟩:=x;exact p.lt
 | dK kvs=>obtain⟨_,_,_,_,o,_,_,e,_⟩:=x;exact Heap.lt_size e
 | dT kvs=>obtain⟨_,_,_,_,o,_,_,e,_⟩:=x;exact Heap.lt_size e
 | set S n=>obtain⟨o,_,_,_,e,_⟩:=x;exact Heap.lt_size e
 | ins C dx fs=>obtain⟨_,_,_,e,_⟩:=x;exact Heap.lt_size e
 | own y=>obtain⟨_,e⟩:=x;exact Heap.lt_size e
 | xd fs=>obtain⟨_,⟨_,_,_,e,_⟩,_⟩:=x;exact Heap.lt_size e
 | rng lo hi=>obtain⟨_,_,_,e⟩:=x;exact Heap.lt_size e
 | frz j u=>obtain⟨e,_⟩:=x;exact Heap.lt_size e
 | tbl ps=>exact Heap.lt_size (show h.get? a=some _ from x)
 | met f y=>exact Heap.lt_size (show h.get? a=some _ from x)
 | ext φ=>obtain⟨_,⟨_,e⟩,_⟩:=x;exact Heap.lt_size e
theorem Paired.Uw{α β:Type}{F G:α→β→Prop}:∀{l₁:List α}{l₂:List β},Paired F l₁ l₂→(∀a b,F a b→G a b)→Paired G l₁ l₂
 | _,_,.nil,_=>.nil
 | _,_,.cons r t,f=>.cons (f _ _ r) (Paired.Uw t f)
theorem cV.stay(x:cV P w H h a o)(k:∀b u,(b=a∨H b=some (.own a))→h.get? b=some u→h'.get? b=some u)
  (D:∀b,H b=some (.own a)→H' b=some (.own a)) (G:∀b xs,H b=some (.tup xs)→H' b=some (.tup xs)):cV P w H' h' a o:=by
 induction o with
 | lst xs=>obtain⟨z,its,n,r,e⟩:=x;exact⟨z,its,n,r,k _ _ (.inl rfl) e⟩
 | tup xs=>obtain⟨z,its,r,j,e,c⟩:=x;exact⟨z,its,r,j,k _ _ (.inl rfl) e,c⟩
 | dK kvs=>obtain⟨z,y,vs,r,j,es,ep,e,c⟩:=x;exact⟨z,y,vs,r,j,es,ep,k _ _ (.inl rfl) e,c⟩
 | dT kvs =>
  obtain⟨z,y,xs,r,j,es,ep,e,c⟩:=x
  exact⟨z,y,xs,Paired.Uw r fun p q z=>⟨z.1,G _ _ z.2.1,z.2.2⟩,j,es,ep,k _ _ (.inl rfl) e,c⟩
 | set S n=>obtain⟨j,es,ep,t,e,c⟩:=x;exact⟨j,es,ep,t,k _ _ (.inl rfl) e,c⟩
 | ins C dx fs =>
  obtain⟨d,z,ne,e,mA,⟨od,es,ep,e2,c⟩,r⟩:=x
  exact⟨D _ d,z,ne,k _ _ (.inl rfl) e,mA,⟨od,es,ep,k _ _ (.inr d) e2,c⟩,r⟩
 | own y=>obtain⟨j,e⟩:=x;exact⟨j,k _ _ (.inl rfl) e⟩
 | xd fs=>obtain⟨mA,⟨od,es,ep,e,c⟩,r⟩:=x;exact⟨mA,⟨od,es,ep,k _ _ (.inl rfl) e,c⟩,r⟩
 | rng lo hi=>obtain⟨t,u,v,e⟩:=x;exact⟨t,u,v,k _ _ (.inl rfl) e⟩
 | frz j u F=>obtain⟨e,q⟩:=x;exact⟨k _ _ (.inl rfl) e,F q⟩
 | tbl ps =>
  have e:h.get? a=some { cls:=.none,data:=.fields ps }:=x
  show h'.get? a=some { cls:=.none,data:=.fields ps }
  exact k a _ (.inl rfl) e
 | met f y =>
  have e:h.get? a=some (PySem.W.methodObj (.ref f) (.ref y)):=x
  show h'.get? a=some (PySem.W.methodObj (.ref f) (.ref y))
  exact k a _ (.inl rfl) e
 | ext φ=>obtain⟨p,⟨o,e⟩,st⟩:=x;exact⟨st _ _ p fun o q=>k _ _ (.inl rfl) q,⟨o,k _ _ (.inl rfl) e⟩,st⟩
theorem mY.lt(x:mY P w H h)(e:H a=some o):a<h.objs.size:=(x a o e).lt
theorem mY.fresh(x:mY P w H h)(e:h.objs.size≤a):H a=none:=by
 cases q:H a with
 | none=>rfl
 | some u=>exact absurd (ic (x.lt q) e) (Nat.lt_irrefl _)
theorem mY.kept(x:mY P w H h)(k:∀b u,h.get? b=some u→h'.get? b=some u):mY P w H h':=fun a o e =>
 (x a o e).stay (fun b u _ q=>k b u q) (fun _ q=>q) fun _ _ q=>q
theorem mY.laid(x:mY P w H h)(k:∀b u,h.get? b=some u→h'.get? b=some u)(D:h.objs.size≤a)(new:cV P w (upd H a o) h' a o):mY P w (upd H a o) h':=fun b u e=>by
 have j:=x.fresh D
 by_cases z:b=a
 ·subst z;rw[ak]at e;cases e;exact new
 ·rw[az z]at e
  exact(x b u e).stay (fun c v _ q=>k c v q) (fun c q=>by rw[az (aH q j)];exact q) fun c xs q=>by rw[az (aH q j)];exact q
end
noncomputable def Rd(H:Hp)(a:Addr)(u:HO):Prop:=H a=some u∨∃o,H a=some (.frz o u)
theorem Rd.ok{P:Program}{w:World}{H:Hp}{h:Heap}{a:Addr}{u:HO}(r:Rd H a u)(x:mY P w H h):cV P w H h a u:=by
 rcases r with r | ⟨o,r⟩
 ·exact x a u r
 ·obtain⟨_,q⟩:=x a _ r
  exact q
noncomputable def Vm:Option HO→Prop
 | some (.lst _)=>True
 | some (.dK _)=>True
 | some (.dT _)=>True
 | some (.set _ _)=>True
 | some (.ins _ _ _)=>True
 | some (.ext _)=>True
 | _=>False
section
variable {P:Program} {w:World} {H:Hp} {h h':Heap} {x e:Addr} {o':HO}
theorem mY.write(ok:mY P w H h)(J:Vm (H x))(U:e=x∨H e=some (.own x))(k:∀b u,b≠e→h.get? b=some u→h'.get? b=some u)(O:∃u,h'.get? e=some u)
  (new:cV P w (upd H x o') h' x o'):mY P w (upd H x o') h':=fun b u q=>by
 have D:∀c y,H c=some (.own y)→c≠x:=fun c y r z=>by subst z;rw[r]at J;exact J
 have F:∀c xs,H c=some (.tup xs)→c≠x:=fun c xs r z=>by subst z;rw[r]at J;exact J
 by_cases L:b=x
 ·subst L;rw[ak]at q;cases q;exact new
 ·rw[az L]at q
  by_cases j:b=e
  ·have S:H b=some (.own x):=by
    rcases U with z | z
    ·exact absurd (j.trans z) L
    ·rw[j];exact z
   rw[q]at S;cases S
   obtain⟨v,Y⟩:=O
   exact⟨v,by rw[j];exact Y⟩
  ·refine(ok b u q).stay (fun c v G r=>k c v ?_ r) (fun c r=>by rw[az (D c b r)];exact r) fun c xs r=>by rw[az (F c xs r)];exact r
   rcases G with rfl | G
   ·exact j
   ·rintro rfl
    rcases U with z | z
    ·exact D c b G z
    ·rw[G]at z;cases z;exact L rfl
end
structure Un (fs ex:List Addr) (H H':Hp) (h h':Heap):Prop where
 keep:∀b o,h.get? b=some o→H b=none→b∉fs→b∉ex→h'.get? b=some o
 slot:∀b o,h.get? b=some o→H b=none→b∈fs→b∉ex→∃sl,h'.get? b=some { o with slots:=sl }
 free:∀b o,h.get? b=some o→H b=none→b∉ex→H' b=none
 there:∀b o,h.get? b=some o→b∉ex→∃o',h'.get? b=some o'
 tups:∀b xs,H b=some (.tup xs)→H' b=some (.tup xs)
 frzs:∀b o u,H b=some (.frz o u)→H' b=some (.frz o u)
 tbls:∀b ps,H b=some (.tbl ps)→∃more,H' b=some (.tbl (ps++more))
section
variable {fs fs' ex ex':List Addr} {H H1 H2:Hp} {h h1 h2 h':Heap} {a x e:Addr} {o:HO}
theorem Un.any(u:Un fs ex H H1 h h1){b:Addr}{j:Obj}(q:h.get? b=some j)(n:H b=none)(hx:b∉ex):∃sl,h1.get? b=some { j with slots:=sl }:=by
 by_cases z:b∈fs
 ·exact u.slot b j q n z hx
 ·exact⟨j.slots,u.keep b j q n z hx⟩
theorem Un.kept(k:∀b u,h.get? b=some u→h'.get? b=some u):Un fs ex H H h h' :=
 ⟨fun b j q _ _ _=>k b j q,fun b j q _ _ _=>⟨j.slots,k b j q⟩,fun _ _ _ n _=>n,fun b j q _=>⟨j,k b j q⟩,fun _ _ q=>q,fun _ _ _ q=>q,fun _ ps q=>⟨#[],by rw[q];simp⟩⟩
theorem Un.refl:Un fs ex H H h h:=Un.kept fun _ _ q=>q
theorem Un.laid(k:∀b u,h.get? b=some u→h'.get? b=some u)(z:h.objs.size≤a)(j:H a=none):Un fs ex H (upd H a o) h h' where
 keep:=fun b u q _ _ _=>k b u q
 slot:=fun b u q _ _ _=>⟨u.slots,k b u q⟩
 free:=fun b u q n _=>by rw[az (i4 (ic (Heap.lt_size q) z))];exact n
 there:=fun b u q _=>⟨u,k b u q⟩
 tups:=fun b xs q=>by rw[az (aH q j)];exact q
 frzs:=fun b u xs q=>by rw[az (aH q j)];exact q
 tbls:=fun b ps q=>⟨#[],by rw[az (aH q j),q];simp⟩
theorem Un.write(D:Vm (H x))(L:e=x∨H e=some (.own x))(k:∀b u,b≠e→h.get? b=some u→h'.get? b=some u)(F:∃u,h'.get? e=some u):Un fs ex H (upd H x o) h h':=by
 have hx:∀b,H b=none→b≠x:=fun b n z=>by subst z;rw[n]at D;exact D
 have J:∀b,H b=none→b≠e:=fun b n z=>by
  subst z
  rcases L with r | r
  ·exact hx b n r
  ·rw[n]at r;cases r
 have G:∀b u,H b=some u→¬Vm (some u)→b≠x:=fun b u q nm z=>by subst z;rw[q]at D;exact nm D
 refine⟨fun b u q n _ _=>k b u (J b n) q,fun b u q n _ _=>⟨u.slots,k b u (J b n) q⟩,fun b u q n _=>by rw[az (hx b n)];exact n,fun b u q _=>?_,
  fun b xs q=>by rw[az (G b _ q fun z=>z)];exact q,fun b u xs q=>by rw[az (G b _ q fun z=>z)];exact q,fun b ps q=>⟨#[],by rw[az (G b _ q fun z=>z),q];simp⟩⟩
 by_cases j:b=e
 ·subst j;exact F
 ·exact⟨u,k b u j q⟩
end
noncomputable def Vf(h:Heap)(H:Hp):List Addr:=(List.range h.objs.size).filter fun a=>(H a).isSome
noncomputable def xG(h:Heap)(H:Hp):Heap:=PySem.W.hideAll h (Vf h H)
theorem G_(h:Heap)(H:Hp):(xG h H).objs.size=h.objs.size:=PySem.W.hideAll_size _ _
theorem Lz{h:Heap}{H:Hp}{b:Addr}{o:Obj}(e:h.get? b=some o)(n:H b=none):(xG h H).get? b=some o :=
 PySem.W.hideAll_get _ e fun j=>by
  have q:(H b).isSome=true:=(List.mem_filter.mp j).2
  rw[n]at q;simp at q
theorem O7{h:Heap}{H:Hp}{b:Addr}{o:Obj}(e:(xG h H).get? b=some o):h.get? b=some o∧H b=none:=by
 have j:h.get? b=some o:=PySem.W.of_hideAll (Vf h H) e
 refine⟨j,?_⟩
 cases q:H b with
 | none=>rfl
 | some x =>
  have D:b∈Vf h H:=List.mem_filter.mpr ⟨ka.mpr (Heap.lt_size j),by simp[q]⟩
  have z:(xG h H).get? b=none:=PySem.W.hideAll_none (Vf h H) D
  rw[z]at e;cases e
end L2
namespace L2
open PySem PySem.Spec PyProof.Rows
structure Mod (K:PySem.W.Frag) (mg:Str→Option Value) (base:Heap):Prop where
 kin:K.In base
 glob:base.Ns mainGlobals mg
 blt:∃mb,base.Ns builtinsNs mb∧∀x:Str,x ≠ "__name__"→mb x=bootBuiltins x
 nolimit:base.NoLimit
structure Cx where
 prog:Program
 w:World
 K:PySem.W.Frag
 mg:Str→Option Value
 base:Heap
 A:Around
 N:List Str
 s_0:Shared
 H_0:Hp
 env:Env
 outer:List Env
 stack:List Env
 ex:List Addr
 fn:Str→Bool
 calm:Bool
 pn:List (Addr×Obj)
 xe:Value→Shared→Prop
noncomputable def frs(l:List Env):List Addr:=l.filterMap (·.frame)
noncomputable abbrev Cx.fs(X:Cx):List Addr:=frs X.outer
noncomputable def U7(sc:Scope)(x:Str):Prop:=sc.names.lookup x=some .local∨sc.names.lookup x=some .cell∨sc.names.lookup x=some .free
noncomputable def Loc(sc:Scope)(x:Str):Prop:=sc.names.lookup x=some .local∨sc.names.lookup x=some .cell
noncomputable def Look(env:Env)(h:Heap)(m:Str→Option Value)(x:Str)(u:Value):Prop :=
 (env.kindOf x=some .local∧m x=some u)∨((env.kindOf x=some .cell∨env.kindOf x=some .free)∧∃c,env.cells.lookup x=some c∧h.IsCell c (some u))
structure Cx.Ok (X:Cx):Prop where
 mod:Mod X.K X.mg X.base
 kind:X.env.scope.kind=.function
 glob:X.env.globals=mainGlobals
 blt:X.env.builtins=builtinsNs
 above:X.s_0.heap.objs.size≤X.env.locals
 inj:∀x y c,X.env.cells.lookup x=some c→X.env.cells.lookup y=some c→x=y
 has:∀x,(X.env.kindOf x=some .cell∨X.env.kindOf x=some .free)→∃c,X.env.cells.lookup x=some c
 cab:∀x c,X.fn x=true→X.env.cells.lookup x=some c→X.s_0.heap.objs.size≤c
 hd:X.calm=true→X.A.handled=none
 frames:X.A.frames=some X.stack
 stk:X.stack=X.outer∨(X.stack=X.env::X.outer∧X.env.frame=some X.env.locals)
 exf:∀b∈X.ex,b≠X.env.locals∧∀x c,X.env.cells.lookup x=some c→c≠b
 bs:∀b o,X.base.get? b=some o→X.s_0.heap.get? b=some o∧X.H_0 b=none
 bsz:X.base.objs.size≤X.s_0.heap.objs.size
 noex:∀b o,X.base.get? b=some o→b∉X.ex
 exfs:∀b∈X.ex,b∉X.fs
 nQ:X.s_0.heap.FunFrames X.base X.outer
 frf:∀b∈X.fs,X.H_0 b=none
structure Inv (X:Cx) (pins:List (Addr×Obj)) (σ:List (Option V)) (H:Hp) (s:Shared):Prop where
 ok:X.Ok
 os:s.os=X.s_0.os
 bare:AllBare s.gens
 base:Un X.fs X.ex X.H_0 H X.s_0.heap s.heap
 loc:∃m,s.heap.Ns X.env.locals m∧∀(i:Nat)(x:Str)(v:V),X.N[i]?=some x→σ[i]?=some (some v)→U7 X.env.scope x→∃u,RelV v u∧Look X.env s.heap m x u
 cell:∀x c,X.env.cells.lookup x=some c→∃v,s.heap.IsCell c v
 free:H X.env.locals=none
 freeC:∀x c,X.env.cells.lookup x=some c→H c=none
 pin:∀p∈X.pn++pins,s.heap.get? p.1=some p.2∧H p.1=none∧p.1≠X.env.locals∧p.1∉X.fs∧∀v,p.2.data≠.cell v
 hok:mY X.prog X.w H s.heap
 len:σ.length=X.N.length
section
variable {X:Cx} {pins:List (Addr×Obj)} {σ:List (Option V)} {H H':Hp} {s:Shared} {h':Heap}
theorem Cx.Ok.V4(ok:X.Ok){b:Addr}{o:Obj}(e:X.base.get? b=some o):b∉X.fs:=fun j=>by
 have:=(ok.nQ.mem j).1
 rw[e]at this;cases this
theorem Inv.bs(I:Inv X pins σ H s):∀b o,X.base.get? b=some o→s.heap.get? b=some o∧H b=none:=fun b o e =>
 ⟨I.base.keep b o (I.ok.bs b o e).1 (I.ok.bs b o e).2 (I.ok.V4 e) (I.ok.noex b o e),I.base.free b o (I.ok.bs b o e).1 (I.ok.bs b o e).2 (I.ok.noex b o e)⟩
theorem Inv.bk(I:Inv X pins σ H s):∀b o,X.base.get? b=some o→s.heap.get? b=some o:=fun b o e=>(I.bs b o e).1
theorem Inv.mod(I:Inv X pins σ H s):Mod X.K X.mg X.base:=I.ok.mod
theorem Inv.oZ(I:Inv X pins σ H s):X.K.In s.heap:=I.ok.mod.kin.keeps I.bk
theorem Inv.fr(I:Inv X pins σ H s):∃m,Fr X.base X.env.locals s.heap m :=
 let⟨m,hn,_⟩:=I.loc
 ⟨m,hn,I.bk,iq I.ok.bsz I.ok.above⟩
theorem Inv.lt(I:Inv X pins σ H s):X.env.locals<s.heap.objs.size:=let⟨_,hn,_⟩:=I.loc;hn.lt
theorem Inv.sz(I:Inv X pins σ H s):X.s_0.heap.objs.size≤s.heap.objs.size:=iq I.ok.above (Nat.le_of_lt I.lt)
theorem Inv.V3(I:Inv X pins σ H s){a:Addr}(h:s.heap.objs.size≤a):a∉X.fs:=fun j=>by
 obtain⟨_,o,z,_⟩:=I.ok.nQ.mem j
 exact absurd (ic (Heap.lt_size z) (iq I.sz h)) (Nat.lt_irrefl _)
theorem Inv.QQ(I:Inv X pins σ H s):∀x c,X.env.cells.lookup x=some c→c≠X.env.locals:=fun x c e z=>by
 obtain⟨v,o,F,hd⟩:=I.cell x c e
 obtain⟨m,⟨o',es,ep,j,D,_⟩,_⟩:=I.loc
 rw[z,j]at F;cases F;rw[D]at hd;cases hd
theorem Inv.nQ(I:Inv X pins σ H s):s.heap.FunFrames X.base X.outer:=by
 have all:∀(l:List Env),(∀b∈frs l,b∈X.fs)→X.s_0.heap.FunFrames X.base l→s.heap.FunFrames X.base l:=by
  intro l
  induction l with
  | nil=>intro _ _;trivial
  | cons env r Z =>
   intro G U
   obtain⟨S,⟨L,o,j,J,Y,hd⟩,O⟩:=U
   have F:L∈X.fs:=G L (by unfold frs;rw[List.filterMap_cons,j];exact b')
   obtain⟨sl,e⟩:=I.base.slot L o Y (I.ok.frf L F) F fun z=>I.ok.exfs L z F
   exact⟨S,⟨L,_,j,J,e,hd⟩,Z (fun b D=>G b (by unfold frs;rw[List.filterMap_cons,j];exact am _ D)) O⟩
 exact all X.outer (fun _ D=>D) I.ok.nQ
theorem Inv.stack(I:Inv X pins σ H s):s.heap.FunFrames X.base X.stack:=by
 rcases I.ok.stk with e | ⟨e,j⟩
 ·rw[e];exact I.nQ
 ·rw[e]
  obtain⟨m,z,_⟩:=I.loc
  refine .cons (by rw[I.ok.kind];decide) j z ?_ I.nQ
  exact Heap.get?_none_of_le (iq I.ok.bsz I.ok.above)
theorem Inv.Aa(I:Inv X pins σ H s):∀b∈frs X.stack,b∈X.env.locals::X.fs:=fun b j=>by
 rcases I.ok.stk with e | ⟨e,z⟩
 ·rw[e]at j;exact am _ j
 ·rw[e]at j
  unfold frs at j
  rw[List.filterMap_cons,z]at j
  exact j
theorem Inv.jc(I:Inv X pins σ H s):∀b∈frs X.stack,H b=none:=fun b j=>by
 rcases hU.mp (I.Aa b j)with e | j
 ·rw[e];exact I.free
 ·obtain⟨_,o,D,_⟩:=I.ok.nQ.mem j
  exact I.base.free b o D (I.ok.frf b j) fun z=>I.ok.exfs b z j
theorem Inv.step{g':Array GenState}{t':Nat}{d':Drawn}{ch:List Addr}(I:Inv X pins σ H s)
  (D:∀b∈ch,(b∈X.ex∨X.s_0.heap.objs.size≤b)∧b≠X.env.locals∧(∀x c,X.env.cells.lookup x=some c→c≠b)∧∀p∈X.pn++pins,p.1≠b)
  (keep:∀b o,b≠X.env.locals→b∉X.fs→b∉ch→s.heap.get? b=some o→H b=none→h'.get? b=some o)
  (slot:∀b o,b≠X.env.locals→b∈X.fs→b∉ch→s.heap.get? b=some o→H b=none→∃sl,h'.get? b=some { o with slots:=sl }) (free:∀b o,b∉ch→s.heap.get? b=some o→H b=none→H' b=none)
  (there:∀b o,b∉ch→s.heap.get? b=some o→∃o',h'.get? b=some o')
  (tups:∀b xs,H b=some (.tup xs)→H' b=some (.tup xs)) (frzs:∀b o u,H b=some (.frz o u)→H' b=some (.frz o u)) (tbls:∀b ps,H b=some (.tbl ps)→∃more,H' b=some (.tbl (ps++more)))
  (ns:∀m,s.heap.Ns X.env.locals m→h'.Ns X.env.locals m) (hok:mY X.prog X.w H' h') (hg:AllBare g') :
  Inv X pins σ H' { s with heap:=h',gens:=g',drawn:=d',toks:=t' }:=by
 have O:∀b o,X.s_0.heap.get? b=some o→b≠X.env.locals:=fun b o e=>i4 (ic (Heap.lt_size e) I.ok.above)
 have G:∀b o,X.s_0.heap.get? b=some o→b∉X.ex→b∉ch:=fun b o e hx J=>by
  rcases(D b J).1 with z | z
  ·exact hx z
  ·exact absurd (ic (Heap.lt_size e) z) (Nat.lt_irrefl _)
 have j:∀x c,X.env.cells.lookup x=some c→∀v,s.heap.IsCell c v→h'.IsCell c v:=fun x c e v ⟨o,L,hd⟩=>by
  have F:c∉ch:=fun z=>(D c z).2.2.1 x c e rfl
  by_cases U:c∈X.fs
  ·obtain⟨sl,q⟩:=slot c o (I.QQ x c e) U F L (I.freeC x c e)
   exact⟨_,q,hd⟩
  ·exact⟨o,keep c o (I.QQ x c e) U F L (I.freeC x c e),hd⟩
 refine⟨I.ok,I.os,hg,⟨fun b o e n J hx=>?_,fun b o e n J hx=>?_,fun b o e n hx=>?_,fun b o e hx=>?_,fun b xs e=>tups b xs (I.base.tups b xs e),fun b o xs e=>frzs b o xs (I.base.frzs b o xs e),fun b ps e=>?_⟩,?_,fun x c e=>?_,?_,fun x c e=>?_,fun p Z=>?_,hok,I.len⟩
 ·exact keep b o (O b o e) J (G b o e hx) (I.base.keep b o e n J hx) (I.base.free b o e n hx)
 ·obtain⟨sl,e1⟩:=I.base.slot b o e n J hx
  obtain⟨S,e2⟩:=slot b _ (O b o e) J (G b o e hx) e1 (I.base.free b o e n hx)
  exact⟨S,e2⟩
 ·obtain⟨o',e1⟩:=I.base.there b o e hx
  exact free b o' (G b o e hx) e1 (I.base.free b o e n hx)
 ·obtain⟨o',e1⟩:=I.base.there b o e hx
  exact there b o' (G b o e hx) e1
 ·obtain⟨m1,e1⟩:=I.base.tbls b ps e
  obtain⟨m2,e2⟩:=tbls b _ e1
  exact⟨m1++m2,by rw[e2,Array.append_assoc]⟩
 ·obtain⟨m,hn,hl⟩:=I.loc
  refine⟨m,ns m hn,fun i x v e1 e2 e3=>?_⟩
  obtain⟨u,r,l⟩:=hl i x v e1 e2 e3
  refine⟨u,r,?_⟩
  rcases l with l | ⟨k,c,e,z⟩
  ·exact .inl l
  ·exact .inr ⟨k,c,e,j x c e _ z⟩
 ·obtain⟨v,z⟩:=I.cell x c e
  exact⟨v,j x c e v z⟩
 ·obtain⟨m,⟨o,_,_,L,_⟩,_⟩:=I.loc
  exact free _ o (fun z=>(D _ z).2.1 rfl) L I.free
 ·obtain⟨v,o,L,hd⟩:=I.cell x c e
  exact free c o (fun z=>(D c z).2.2.1 x c e rfl) L (I.freeC x c e)
 ·obtain⟨e,n,ne,Y,d⟩:=I.pin p Z
  have F:p.1∉ch:=fun z=>(D p.1 z).2.2.2 p Z rfl
  exact⟨keep p.1 p.2 ne Y F e n,free p.1 p.2 F e n,ne,Y,d⟩
theorem Inv.un{t':Nat}(I:Inv X pins σ H s)(u:Un X.fs [] H H' s.heap h')(hok:mY X.prog X.w H' h'):Inv X pins σ H' { s with heap:=h',toks:=t' }:=by
 obtain⟨m,⟨o,es,ep,J,r⟩,_⟩:=id I.loc
 obtain⟨sl,S⟩:=u.any J I.free (by simp)
 exact I.step (g':=s.gens) (d':=s.drawn) (ch:=[]) (fun _ z=>nomatch z) (fun b o _ G _ e n=>u.keep b o e n G (by simp)) (fun b o _ G _ e n=>u.slot b o e n G (by simp)) (fun b o _ e n=>u.free b o e n (by simp)) (fun b o _ e=>u.there b o e (by simp)) u.tups u.frzs u.tbls (fun U L=>by
  obtain⟨o',F,D,j,O⟩:=L
  rw[J]at j;cases j
  exact⟨_,F,D,S,O⟩) hok I.bare
theorem Inv.call{g':Array GenState}{t':Nat}{d':Drawn}{ch:List Addr}(I:Inv X pins σ H s)(u:Un (frs X.stack) ch H H' s.heap h')(hok:mY X.prog X.w H' h')(U:AllBare g')
  (F:∀b∈ch,(b∈X.ex∨X.s_0.heap.objs.size≤b)∧b≠X.env.locals∧(∀x c,X.env.cells.lookup x=some c→c≠b)∧∀p∈X.pn++pins,p.1≠b) :
  Inv X pins σ H' { s with heap:=h',gens:=g',drawn:=d',toks:=t' }:=by
 obtain⟨m,⟨o,es,ep,O,r⟩,_⟩:=id I.loc
 obtain⟨sl,L⟩:=u.any O I.free fun z=>(F _ z).2.1 rfl
 exact I.step (ch:=ch) F (fun b o L Z j e n=>u.keep b o e n (fun z=>(hU.mp (I.Aa b z)).elim L Z) j) (fun b o _ _ j e n=>u.any e n j) (fun b o j e n=>u.free b o e n j) (fun b o j e=>u.there b o e j) u.tups u.frzs u.tbls (fun m' S=>by
  obtain⟨o',J,G,D,Y⟩:=S
  rw[O]at D;cases D
  exact⟨_,J,G,L,Y⟩) hok U
theorem Inv.turned{t':Nat}{it:Addr}(I:Inv X pins σ H s)(k:∀b o,b≠it→s.heap.get? b=some o→h'.get? b=some o)(J:H it=none)(F:it≠X.env.locals)
  (h1:it∈X.ex∨X.s_0.heap.objs.size≤it) (h2:∀x c,X.env.cells.lookup x=some c→c≠it) (G:∀p∈X.pn++pins,p.1≠it):Inv X pins σ H { s with heap:=h',toks:=t' }:=by
 have D:∀b u,H b=some u→b≠it:=fun b u e z=>by rw[z,J]at e;cases e
 refine I.step (g':=s.gens) (d':=s.drawn) (ch:=[it]) (fun b S=>?_) (fun b o _ _ j e _=>k b o (fun z=>j (by simp[z])) e) (fun b o _ _ j e _=>⟨o.slots,k b o (fun z=>j (by simp[z])) e⟩) (fun _ _ _ _ n=>n)
  (fun b o j e=>⟨o,k b o (fun z=>j (by simp[z])) e⟩) (fun _ _ e=>e) (fun _ _ _ e=>e) (fun b ps e=>⟨#[],by rw[e];simp⟩) (fun m L=>?_) (fun b u e=>?_) I.bare
 ·have e:b=it:=by simpa using S
  subst e
  exact⟨h1,F,h2,G⟩
 ·obtain⟨o,es,ep,O,r⟩:=L
  exact⟨o,es,ep,k _ o (Ne.symm F) O,r⟩
 ·refine(I.hok b u e).stay (fun c v j q=>k c v ?_ q) (fun _ q=>q) fun _ _ q=>q
  rcases j with z | z
  ·rw[z];exact D b u e
  ·exact D c _ z
theorem Inv.tok(I:Inv X pins σ H s)(t:Nat):Inv X pins σ H { s with toks:=t }:=I.un (h':=s.heap) (t':=t) Un.refl I.hok
theorem Inv.kept{t':Nat}(I:Inv X pins σ H s)(k:∀b u,s.heap.get? b=some u→h'.get? b=some u):Inv X pins σ H { s with heap:=h',toks:=t' }:=I.un (Un.kept k) (I.hok.kept k)
theorem Inv.laid{a:Addr}{o:HO}{t':Nat}(I:Inv X pins σ H s)(k:∀b u,s.heap.get? b=some u→h'.get? b=some u)(j:s.heap.objs.size≤a)(new:cV X.prog X.w (upd H a o) h' a o) :
  Inv X pins σ (upd H a o) { s with heap:=h',toks:=t' }:=I.un (Un.laid k j (I.hok.fresh j)) (I.hok.laid k j new)
theorem Inv.write{x e:Addr}{o:HO}{t':Nat}(I:Inv X pins σ H s)(z:Vm (H x))(D:e=x∨H e=some (.own x))(k:∀b u,b≠e→s.heap.get? b=some u→h'.get? b=some u)(j:∃u,h'.get? e=some u)
  (new:cV X.prog X.w (upd H x o) h' x o):Inv X pins σ (upd H x o) { s with heap:=h',toks:=t' }:=I.un (Un.write z D k j) (I.hok.write z D k j new)
theorem Inv.weak{σ':List (Option V)}(I:Inv X pins σ H s)(j:σ'.length=σ.length)(w:∀(i:Nat) v,σ'[i]?=some (some v)→σ[i]?=some (some v)):Inv X pins σ' H s :=
 ⟨I.ok,I.os,I.bare,I.base,let⟨m,hn,hl'⟩:=I.loc;⟨m,hn,fun i x v e1 e2 e3=>hl' i x v e1 (w i v e2) e3⟩,I.cell,I.free,I.freeC,I.pin,I.hok,j.trans I.len⟩
theorem Inv.wZ{j:List (Addr×Obj)}(I:Inv X pins σ H s)(h:∀p∈j,s.heap.get? p.1=some p.2∧H p.1=none∧p.1≠X.env.locals∧p.1∉X.fs∧∀v,p.2.data≠.cell v):Inv X j σ H s :=
 ⟨I.ok,I.os,I.bare,I.base,I.loc,I.cell,I.free,I.freeC,fun p D=>(List.mem_append.mp D).elim (fun z=>I.pin p (List.mem_append_left _ z)) (h p),I.hok,I.len⟩
theorem uB{N:List Str}(z:N.Nodup){i j:Nat}{x:Str}(a:N[i]?=some x)(b:N[j]?=some x):i=j:=by
 obtain⟨h1,e1⟩:=hZ.mp a
 obtain⟨h2,e2⟩:=hZ.mp b
 exact(List.getElem_inj z).mp (e1.trans e2.symm)
theorem vC{M:Model}{A:Around}{E:Value→Shared→Prop}{i:Nat}{x:Str}{v:V}{u:Value}{Q:Unit→Shared→Prop}(I:Inv X pins σ H s)(hN:X.N.Nodup)(hi:X.N[i]?=some x)(hx:Loc X.env.scope x)(r:RelV v u)
  (h:∀s',Inv X pins (σ.set i (some v)) H s'→(∃a,Heap.SameBut a s.heap s'.heap∧(a=X.env.locals∨X.env.cells.lookup x=some a))→Q () s') (hf:X.fn x=true∨X.env.scope.names.lookup x=some .local:=by first | exact .inl rfl | exact .inr rfl | assumption):wpAny M A (storeName X.env x u) Q E s:=by
 obtain⟨m,hn,hl⟩:=id I.loc
 have ae:(X.env.scope.kind==.class||(X.env.scope.kind==.module&&X.env.locals != X.env.globals))=false:=by rw[I.ok.kind];rfl
 have hiσ:i<σ.length:=by rw[I.len];exact(hZ.mp hi).1
 have QQ:=I.QQ
 have F:∀{a:Addr}{h':Heap},(∃o,s.heap.get? a=some o∧H a=none)→Heap.SameBut a s.heap h'→mY X.prog X.w H h':=fun{a h'} ha D b ob e=>by
  obtain⟨_,_,J⟩:=ha
  refine(I.hok b ob e).stay (fun c w' G q=>(D.2 c ?_).trans q) (fun _ q=>q) fun _ _ q=>q
  rintro rfl
  rcases G with rfl | G
  ·rw[J]at e;cases e
  ·rw[J]at G;cases G
 rcases hx with L | L
 ·refine wpAny_storeName_local L hn (fun h' ag D=>?_) ae
  obtain⟨oL,_,_,af,_⟩:=id hn
  refine h _ ⟨I.ok,I.os,I.bare,⟨fun b o e n S hx=>?_,fun b o e n S hx=>?_,I.base.free,fun b o e hx=>?_,I.base.tups,I.base.frzs,I.base.tbls⟩,⟨_,ag,fun j y v' e1 e2 e3=>?_⟩,fun y c e=>?_,I.free,I.freeC,fun p hp=>?_,F ⟨oL,af,I.free⟩ D,by simpa using I.len⟩ ⟨_,D,.inl rfl⟩
  ·exact(D.2 b (i4 (ic (Heap.lt_size e) I.ok.above))).trans (I.base.keep b o e n S hx)
  ·obtain⟨sl,e1⟩:=I.base.slot b o e n S hx
   exact⟨sl,(D.2 b (i4 (ic (Heap.lt_size e) I.ok.above))).trans e1⟩
  ·obtain⟨o',e1⟩:=I.base.there b o e hx
   exact⟨o',(D.2 b (i4 (ic (Heap.lt_size e) I.ok.above))).trans e1⟩
  ·by_cases O:j=i
   ·subst O
    rw[hi]at e1;cases e1
    rw[List.getElem?_set_self hiσ]at e2
    cases e2
    exact⟨u,r,.inl ⟨L,by simp⟩⟩
   ·rw[List.getElem?_set_ne (Ne.symm O)]at e2
    obtain⟨u',r',q⟩:=hl j y v' e1 e2 e3
    refine⟨u',r',?_⟩
    rcases q with⟨k,e⟩ | ⟨k,c,e,z⟩
    ·refine .inl ⟨k,?_⟩
     have:y≠x:=fun e=>O (uB hN e1 (e▸hi))
     simp[this,e]
    ·exact .inr ⟨k,c,e,z.sameBut D (QQ y c e)⟩
  ·obtain⟨w',z⟩:=I.cell y c e
   exact⟨w',z.sameBut D (QQ y c e)⟩
  ·obtain⟨e,n,ne,nf,d⟩:=I.pin p hp
   exact⟨(D.2 p.1 ne).trans e,n,ne,nf,d⟩
 ·have U:X.fn x=true:=by
   rcases hf with z | z
   ·exact z
   ·rw[z]at L;cases L
  obtain⟨c,G⟩:=I.ok.has x (.inl L)
  obtain⟨w',z⟩:=I.cell x c G
  refine wpAny_storeName_cell I.ok.kind L G z (fun h' Y D=>?_)
  obtain⟨oc,Z,aa⟩:=id z
  refine h { s with heap:=h' } ⟨I.ok,I.os,I.bare,⟨fun b o e n S hx=>?_,fun b o e n S hx=>?_,I.base.free,fun b o e hx=>?_,I.base.tups,I.base.frzs,I.base.tbls⟩,⟨m,hn.sameBut D (Ne.symm (QQ x c G)),fun j y v' e1 e2 e3=>?_⟩,fun y c' e=>?_,I.free,I.freeC,fun p hp=>?_,F ⟨oc,Z,I.freeC x c G⟩ D,by simpa using I.len⟩ ⟨c,D,.inr G⟩
  ·exact(D.2 b (i4 (ic (Heap.lt_size e) (I.ok.cab x c U G)))).trans (I.base.keep b o e n S hx)
  ·obtain⟨sl,e1⟩:=I.base.slot b o e n S hx
   exact⟨sl,(D.2 b (i4 (ic (Heap.lt_size e) (I.ok.cab x c U G)))).trans e1⟩
  ·obtain⟨o',e1⟩:=I.base.there b o e hx
   exact⟨o',(D.2 b (i4 (ic (Heap.lt_size e) (I.ok.cab x c U G)))).trans e1⟩
  ·by_cases O:j=i
   ·subst O
    rw[hi]at e1;cases e1
    rw[List.getElem?_set_self hiσ]at e2
    cases e2
    exact⟨u,r,.inr ⟨.inl L,c,G,Y⟩⟩
   ·rw[List.getElem?_set_ne (Ne.symm O)]at e2
    obtain⟨u',r',q⟩:=hl j y v' e1 e2 e3
    refine⟨u',r',?_⟩
    rcases q with q | ⟨k,c',e,z'⟩
    ·exact .inl q
    ·refine .inr ⟨k,c',e,z'.sameBut D ?_⟩
     rintro rfl
     exact O (uB hN e1 (I.ok.inj _ _ _ e G▸hi))
  ·by_cases ac:c'=c
   ·subst ac;exact⟨_,Y⟩
   ·obtain⟨w2,z2⟩:=I.cell y c' e
    exact⟨w2,z2.sameBut D ac⟩
  ·obtain⟨e,n,ne,nf,d⟩:=I.pin p hp
   refine⟨(D.2 p.1 ?_).trans e,n,ne,nf,d⟩
   intro q
   rw[q,Z]at e
   have q':oc=p.2:=Option.some.inj e
   exact d w' (by rw[←q'];exact aa)
theorem tX{M:Model}{A:Around}{E:Value→Shared→Prop}{i:Nat}{x:Str}{v:V}{u:Value}{Q:Unit→Shared→Prop}(I:Inv X pins σ H s)(z:X.N.Nodup)(hi:X.N[i]?=some x)(hx:Loc X.env.scope x)(r:RelV v u)
  (h:∀s',Inv X pins (σ.set i (some v)) H s'→Q () s') (j:X.fn x=true∨X.env.scope.names.lookup x=some .local:=by first | exact .inl rfl | exact .inr rfl | assumption):wpAny M A (storeName X.env x u) Q E s :=
 vC I z hi hx r (fun s' D _=>h s' D) j
theorem Inv.call'{s':Shared}{ch:List Addr}(I:Inv X pins σ H s)(D:s'.os=s.os)(u:Un (frs X.stack) ch H H' s.heap s'.heap)(hok:mY X.prog X.w H' s'.heap)(z:AllBare s'.gens)
  (j:∀b∈ch,(b∈X.ex∨X.s_0.heap.objs.size≤b)∧b≠X.env.locals∧(∀x c,X.env.cells.lookup x=some c→c≠b)∧∀p∈X.pn++pins,p.1≠b):Inv X pins σ H' s':=by
 obtain⟨h',g',d',t',o'⟩:=s'
 have e:o'=s.os:=D
 subst e
 exact I.call (g':=g') (t':=t') (d':=d') u hok z j
end
noncomputable abbrev XK:=Value→Option Addr→Hp→Prop
noncomputable abbrev St:=List (Option V)
noncomputable abbrev VK:=V→Hp→Prop
noncomputable abbrev TE:=St→Hp→VK→Prop
noncomputable abbrev TT:=St→Hp→(Bool→Hp→Prop)→Prop
noncomputable abbrev TA:=St→Hp→(List V→Hp→Prop)→Prop
structure Ends where
 nx:St→Hp→Prop
 rt:VK
 bk:St→Hp→Prop:=fun _ _=>False
 ct:St→Hp→Prop:=fun _ _=>False
noncomputable abbrev TS:=Ends→St→Hp→Prop
noncomputable def EP(X:Cx)(pins:List (Addr×Obj))(σ:St)(Q:VK)(u:Value)(s':Shared):Prop:=∃v H',Inv X pins σ H' s'∧RelV v u∧Q v H'
noncomputable def TP(X:Cx)(pins:List (Addr×Obj))(σ:St)(Q:Bool→Hp→Prop)(b:Bool)(s':Shared):Prop:=∃H',Inv X pins σ H' s'∧Q b H'
noncomputable def AP(X:Cx)(pins:List (Addr×Obj))(σ:St)(Q:List V→Hp→Prop)(us:List Value)(s':Shared):Prop:=∃vs H',Inv X pins σ H' s'∧Vals vs us∧Q vs H'
noncomputable def SP(X:Cx)(pins:List (Addr×Obj))(D:Ends)(f:Flow)(s':Shared):Prop :=
 match f with
 | .next=>∃σ' H',Inv X pins σ' H' s'∧D.nx σ' H'
 | .brk=>∃σ' H',Inv X pins σ' H' s'∧D.bk σ' H'
 | .cont=>∃σ' H',Inv X pins σ' H' s'∧D.ct σ' H'
 | .ret u=>∃v σ' H',Inv X pins σ' H' s'∧RelV v u∧D.rt v H'
noncomputable def PE(X:Cx)(e:Expr)(t:TE):Prop :=
 ∀(pins:List (Addr×Obj))(s:Shared)(σ:St)(H:Hp)(Q:VK),Inv X pins σ H s→t σ H Q→wpAny (model X.prog X.w) X.A (eval e X.env) (EP X pins σ Q) X.xe s
noncomputable def PT(X:Cx)(e:Expr)(t:TT):Prop :=
 ∀(pins:List (Addr×Obj))(s:Shared)(σ:St)(H:Hp)(Q:Bool→Hp→Prop),Inv X pins σ H s→t σ H Q→wpAny (model X.prog X.w) X.A (isTrue e X.env (eval e X.env)) (TP X pins σ Q) X.xe s
noncomputable def PW(X:Cx)(e:Expr)(t:TT):Prop :=
 ∀(whole:Sem Value)(pins:List (Addr×Obj))(s:Shared)(σ:St)(H:Hp)(Q:Bool→Hp→Prop),Inv X pins σ H s→t σ H Q→wpAny (model X.prog X.w) X.A (isTrue e X.env whole) (TP X pins σ Q) X.xe s
theorem PW.pt{X:Cx}{e:Expr}{t:TT}(h:PW X e t):PT X e t:=h _
noncomputable def PA(X:Cx)(es:List Expr)(t:TA):Prop :=
 ∀(pos:Pos)(pins:List (Addr×Obj))(s:Shared)(σ:St)(H:Hp)(Q:List V→Hp→Prop),Inv X pins σ H s→t σ H Q→wpAny (model X.prog X.w) X.A (spliced (backTo pos (starEach es X.env))) (AP X pins σ Q) X.xe s
noncomputable def PS(X:Cx)(st:Stmt)(t:TS):Prop :=
 ∀(pins:List (Addr×Obj))(s:Shared)(σ:St)(H:Hp)(D:Ends),Inv X pins σ H s→t D σ H→wpAny (model X.prog X.w) X.A (exec st X.env) (SP X pins D) X.xe s
noncomputable def zQ(X:Cx)(st:List Stmt)(t:TS):Prop :=
 ∀(pins:List (Addr×Obj))(s:Shared)(σ:St)(H:Hp)(D:Ends),Inv X pins σ H s→t D σ H→wpAny (model X.prog X.w) X.A (execs st X.env) (SP X pins D) X.xe s
theorem cG{α:Type}{t:Sem α}{Q j:α→Shared→Prop}{M:Model}{A:Around}{E:Value→Shared→Prop}{s:Shared}(h:wpAny M A t Q E s)(z:∀a s,Q a s→j a s):wpAny M A t j E s:=wpAny_mono h z fun _ _ x=>x
end L2
namespace L2
open PySem PySem.Spec PyProof.Rows
section
variable {X:Cx}
noncomputable def pP(i:Nat):TE:=fun σ H Q=>∃v,σ[i]?=some (some v)∧Q v H
noncomputable def tC(v:V):TE:=fun _ H Q=>Q v H
theorem Km{i:Nat}{x:Str}{pos:Pos}(G:X.N[i]?=some x)(L:U7 X.env.scope x)(hd:(x==("__debug__" : Str))=false:=by decide)(D:(x==("__classdict__" : Str))=false:=by decide):PE X (.Name x pos) (pP i):=by
 intro pins s σ H Q I h
 obtain⟨v,e,h⟩:=h
 obtain⟨m,J,S⟩:=I.loc
 obtain⟨u,r,l⟩:=S i x v G e L
 have fin:EP X pins σ Q u s:=⟨v,H,I,r,h⟩
 rcases l with⟨z,O⟩ | ⟨z,c,F,j⟩
 ·exact wpAny_Name (wpAny_loadName_local I.ok.kind z J O fin) hd
 ·rcases z with z | z
  ·exact wpAny_Name (wpAny_loadName_cell I.ok.kind z F j fin) hd
  ·exact wpAny_Name (wpAny_loadName_free I.ok.kind z F j fin D) hd
theorem aB{i j pos}:PE X (.Constant (.int i) j pos) (tC (.int i)):=fun _ _ _ H _ I h=>wpAny_Constant_int ⟨.int i,H,I.tok _,⟨_,rfl⟩,h⟩
theorem Bd{j pos}:PE X (.Constant .none j pos) (tC .non):=fun _ _ _ H _ I h=>Constant_none ⟨.non,H,I,rfl,h⟩
theorem bA{x j pos}:PE X (.Constant (.str x) j pos) (tC (.str x)):=fun _ _ _ H _ I h=>Calls.Constant_str ⟨.str x,H,I.tok _,⟨_,rfl⟩,h⟩
noncomputable def Gl(X:Cx)(x:Str):Prop:=X.env.kindOf x=some .globalImplicit
theorem lU{E:Value→Shared→Prop}{pins:List (Addr×Obj)}{s:Shared}{σ:St}{H:Hp}{x:Str}{u:Value}{pos:Pos}{Q:Value→Shared→Prop}(I:Inv X pins σ H s)(z:Gl X x)(j:X.mg x=some u)(h:Q u s)
  (hd:(x==("__debug__" : Str))=false:=by decide):wpAny (model X.prog X.w) X.A (eval (.Name x pos) X.env) Q E s :=
 Calls.Name_function_global I.ok.kind z (Calls.loadGlobal_global (by rw[I.ok.glob];exact I.mod.glob.keeps I.bk) j h) hd
theorem qe{E:Value→Shared→Prop}{pins:List (Addr×Obj)}{s:Shared}{σ:St}{H:Hp}{x:Str}{u:Value}{pos:Pos}{Q:Value→Shared→Prop}(I:Inv X pins σ H s)(z:Gl X x)(j:X.mg x=none)(F:bootBuiltins x=some u)(h:Q u s)
  (D:x ≠ "__name__":=by decide) (hd:(x==("__debug__" : Str))=false:=by decide):wpAny (model X.prog X.w) X.A (eval (.Name x pos) X.env) Q E s:=by
 obtain⟨mb,h1,h2⟩:=I.mod.blt
 exact Calls.Name_function_global I.ok.kind z (Calls.loadGlobal_builtin (by rw[I.ok.glob];exact I.mod.glob.keeps I.bk) j (by rw[I.ok.blt];exact h1.keeps I.bk) ((h2 x D).trans F) h) hd
theorem b_{x:Str}{v:V}{u:Value}{pos:Pos}(z:Gl X x)(j:X.mg x=some u)(r:RelV v u)(hd:(x==("__debug__" : Str))=false:=by decide):PE X (.Name x pos) (tC v) :=
 fun _ _ _ H _ I h=>lU I z j ⟨v,H,I,r,h⟩ hd
variable {a b:Expr} {ta tb:TE} {pos:Pos}
noncomputable def PC(X:Cx)(op:CmpOp)(a b:Expr)(t:TE):Prop :=
 ∀(pins:List (Addr×Obj))(s:Shared)(σ:St)(H:Hp)(Q:VK),Inv X pins σ H s→t σ H Q →
  wpAny (model X.prog X.w) X.A (eval a X.env) (fun v s₁=>wpAny (model X.prog X.w) X.A (eval b X.env) (fun u s₂=>wpAny (model X.prog X.w) X.A (compareOp op v u) (EP X pins σ Q) X.xe s₂) X.xe s₁) X.xe s
theorem Ld(b:Expr){op:CmpOp}(h:op≠.In)(h2:op≠.NotIn):behindInMarks op b=false:=by
 have e1:(op==CmpOp.In)=false:=by cases op<;>first | rfl | exact absurd rfl h
 have e2:(op==CmpOp.NotIn)=false:=by cases op<;>first | rfl | exact absurd rfl h2
 cases b<;>simp[behindInMarks,e1,e2]
noncomputable def Ir(ta:TE):TE:=fun σ H Q=>ta σ H fun x H1=>Q (.bl (decide (x=.non))) H1
theorem RelV.K_{x:V}{v:Value}(r:RelV x v):(v==Value.none)=decide (x=.non):=by
 cases x with
 | non=>cases r;rfl
 | bl _=>cases r;rfl
 | int _=>obtain⟨t,rfl⟩:=r;rfl
 | str _=>obtain⟨t,rfl⟩:=r;rfl
 | byt _=>obtain⟨t,rfl⟩:=r;rfl
 | flt _=>obtain⟨t,rfl⟩:=r;rfl
 | ref _=>cases r;rfl
 | ty _=>cases r;rfl
theorem RD{j pos'}(D:PE X a ta):PC X .Is a (.Constant .none j pos') (Ir ta):=by
 intro pins s σ H Q I h
 refine cG (D pins s σ H _ I h) fun v s1 ⟨x,H1,F,z,G⟩=>?_
 exact Constant_none (is_none_gen ⟨.bl _,H1,F,by rw[z.K_];rfl,G⟩)
noncomputable def tB(t:TE):TT:=fun σ H Q=>t σ H fun x H1=>∃c,x=.bl c∧Q c H1
theorem Ba{op:CmpOp}{t:TE}(h:PC X op a b t)(h1:behindInMarks op b=false:=by first | exact Ld _ (by decide) (by decide) | rfl):PT X (.Compare a [op] [b] pos) (tB t):=by
 intro pins s σ H Q I hw
 refine wpAny_isTrue_Compare1 (cG (h pins s σ H _ I hw) fun v s1 h1=>cG h1 fun u s2 h2=>cG h2 fun c F ⟨x,H1,z,D,j⟩=>?_) h1
 obtain⟨d,rfl,q⟩:=j
 cases D
 exact wpAny_truthy_bool ⟨H1,z,q⟩
theorem eG{e:Expr}{t:TE}(h:PE X e t)(F:∀whole,isTrue e X.env whole=(do let v ←whole;standAt e.pos;holding [v] (truthy v)):=by intro _;rfl):PT X e (tB t):=by
 intro pins s σ H Q I hw
 refine isTrue_plain (cG (h pins s σ H _ I hw) fun v s1 ⟨x,H1,z,D,j⟩=>?_) (F _)
 obtain⟨d,rfl,q⟩:=j
 cases D
 exact wpAny_truthy_bool ⟨H1,z,q⟩
variable {tA tB':TT} {rest:List Expr}
noncomputable def Iv(t u:TT):TT:=fun σ H Q=>t σ H fun c H1=>if c=true then u σ H1 Q else Q false H1
noncomputable def TX(t u:TT):TT:=fun σ H Q=>t σ H fun c H1=>if c=true then Q true H1 else u σ H1 Q
noncomputable def Ip(t:TT):TT:=fun σ H Q=>t σ H fun c H1=>Q (!c) H1
theorem gR(j:PT X a tA):PW X (.BoolOp .And [a] pos) tA:=by
 intro z pins s σ H Q I h
 refine isTrue_and (cG (j pins s σ H Q I h) fun c s1 e=>?_)
 cases c with
 | true=>exact isTrue_and_nil e
 | false=>exact e
theorem jV(j:PT X a tA):PW X (.BoolOp .Or [a] pos) tA:=by
 intro z pins s σ H Q I h
 refine isTrue_or (cG (j pins s σ H Q I h) fun c s1 e=>?_)
 cases c with
 | false=>exact isTrue_or_nil e
 | true=>exact e
theorem jW(F:PT X a tA)(G:PW X (.BoolOp .And (b::rest) pos) tB'):PW X (.BoolOp .And (a::b::rest) pos) (Iv tA tB'):=by
 intro D pins s σ H Q I h
 refine isTrue_and (cG (F pins s σ H _ I h) fun c s1 ⟨H1,z,j⟩=>?_)
 cases c with
 | true=>exact G D pins s1 σ H1 Q z j
 | false=>exact⟨H1,z,j⟩
theorem m_(F:PT X a tA)(G:PW X (.BoolOp .Or (b::rest) pos) tB'):PW X (.BoolOp .Or (a::b::rest) pos) (TX tA tB'):=by
 intro D pins s σ H Q I h
 refine isTrue_or (cG (F pins s σ H _ I h) fun c s1 ⟨H1,z,j⟩=>?_)
 cases c with
 | true=>exact⟨H1,z,j⟩
 | false=>exact G D pins s1 σ H1 Q z j
theorem jX(j:PT X a tA):PT X (.UnaryOp .Not a pos) (Ip tA):=by
 intro pins s σ H Q I h
 exact isTrue_not (j pins s σ H (fun c H1=>Q (!c) H1) I h)
noncomputable def yC(ta tb:TE):TE:=fun σ H Q=>ta σ H fun x H1=>∃c,x=.bl c∧if c=true then tb σ H1 Q else Q (.bl false) H1
noncomputable def Im(ta tb:TE):TE:=fun σ H Q=>ta σ H fun x H1=>∃c,x=.bl c∧if c=true then Q (.bl true) H1 else tb σ H1 Q
noncomputable def yu(ta:TE):TE:=fun σ H Q=>ta σ H fun x H1=>∃c,x=.bl c∧Q (.bl (!c)) H1
theorem Bc{op}{t:TE}(h:PE X a t):PE X (.BoolOp op [a] pos) t:=fun pins s σ H Q I hw=>BoolOp_one (h pins s σ H Q I hw)
theorem RC(D:PE X a ta)(F:PE X (.BoolOp .And (b::rest) pos) tb):PE X (.BoolOp .And (a::b::rest) pos) (yC ta tb):=by
 intro pins s σ H Q I h
 refine BoolOp_and (cG (D pins s σ H _ I h) fun v s1 ⟨x,H1,z,G,j⟩=>?_)
 obtain⟨c,rfl,j⟩:=j
 cases G
 refine wpAny_truthy_bool ?_
 cases c with
 | true=>exact F pins s1 σ H1 Q z j
 | false=>exact⟨.bl false,H1,z,rfl,j⟩
theorem Ks(D:PE X a ta)(F:PE X (.BoolOp .Or (b::rest) pos) tb):PE X (.BoolOp .Or (a::b::rest) pos) (Im ta tb):=by
 intro pins s σ H Q I h
 refine BoolOp_or (cG (D pins s σ H _ I h) fun v s1 ⟨x,H1,z,G,j⟩=>?_)
 obtain⟨c,rfl,j⟩:=j
 cases G
 refine wpAny_truthy_bool ?_
 cases c with
 | false=>exact F pins s1 σ H1 Q z j
 | true=>exact⟨.bl true,H1,z,rfl,j⟩
theorem Ry(D:PE X a ta):PE X (.UnaryOp .Not a pos) (yu ta):=by
 intro pins s σ H Q I h
 refine UnaryOp_ (cG (D pins s σ H _ I h) fun v s1 ⟨x,H1,F,z,j⟩=>?_)
 obtain⟨c,rfl,j⟩:=j
 cases z
 exact not_of (wpAny_truthy_bool ⟨.bl (!c),H1,F,rfl,j⟩)
noncomputable def T6(t:TT)(ta tb:TE):TE:=fun σ H Q=>t σ H fun c H1=>if c=true then ta σ H1 Q else tb σ H1 Q
theorem yP{c:Expr}(D:PT X c tA)(F:PE X a ta)(G:PE X b tb):PE X (.IfExp c a b pos) (T6 tA ta tb):=by
 intro pins s σ H Q I h
 refine wpAny_IfExp (cG (D pins s σ H _ I h) fun d s1 ⟨H1,j,z⟩=>?_)
 cases d with
 | true=>exact F pins s1 σ H1 Q j z
 | false=>exact G pins s1 σ H1 Q j z
end
end L2
namespace L2
open PySem PySem.Spec PyProof.Rows
noncomputable def bZ(K:PySem.W.Frag)(H:Hp)(a:Addr)(xs:List V):Prop :=
 Rd H a (.lst xs) ∨
  ∃(o:Obj)(its:Array Value)(n:Nat),K.lookup a=some o∧o.cls=.type "list"∧o.dict=none∧o.data=.seq its n∧its.size≤sizeLine∧Vals xs its.toList
noncomputable def cR(K:PySem.W.Frag)(H:Hp)(a:Addr)(xs:List V):Prop :=
 Rd H a (.tup xs) ∨
  ∃(o:Obj)(its:Array Value)(n:Nat),K.lookup a=some o∧o.cls=.type "tuple"∧o.data=.seq its n∧its.size≤sizeLine∧Vals xs its.toList
noncomputable def Wj:Value→Option V
 | .none=>some .non
 | .bool b=>some (.bl b)
 | .int i _=>some (.int i)
 | .str x _=>some (.str x)
 | .bytes b _=>some (.byt b)
 | .float b _=>some (.flt b)
 | .ref a=>some (.ref a)
 | .type n=>some (.ty n)
 | _=>none
theorem RelV.abs{x:V}{u:Value}(r:RelV x u):Wj u=some x:=by
 cases x with
 | non=>cases r;rfl
 | bl _=>cases r;rfl
 | int _=>obtain⟨t,rfl⟩:=r;rfl
 | str _=>obtain⟨t,rfl⟩:=r;rfl
 | byt _=>obtain⟨t,rfl⟩:=r;rfl
 | flt _=>obtain⟨t,rfl⟩:=r;rfl
 | ref _=>cases r;rfl
 | ty _=>cases r;rfl
theorem RelV.inj{x y:V}{u:Value}(r:RelV x u)(q:RelV y u):x=y:=Option.some.inj (r.abs.symm.trans q.abs)
theorem Vals.inj:∀{xs ys:List V}{us:List Value},Vals xs us→Vals ys us→xs=ys
 | _,_,_,.nil,.nil=>rfl
 | _,_,_,.cons r t,.cons j t'=>by rw[r.inj j,Vals.inj t t']
section
variable {X:Cx} {pins:List (Addr×Obj)} {σ:St} {H:Hp} {s:Shared} {a:Addr} {xs ys:List V}
theorem bZ.of{K:PySem.W.Frag}(h:H a=some (.lst xs)):bZ K H a xs:=.inl (.inl h)
theorem cR.of{K:PySem.W.Frag}(h:H a=some (.tup xs)):cR K H a xs:=.inl (.inl h)
theorem Inv.list(I:Inv X pins σ H s)(h:bZ X.K H a xs):∃its:List Value,Vals xs its∧PlainL s.heap a its.toArray∧xs.length≤sizeLine:=by
 rcases h with h | ⟨o,its,n,j,D,hd,F,hz,r⟩
 ·obtain⟨z,its,n,r,e⟩:=h.ok I.hok
  exact⟨its,r,⟨_,n,e,rfl,rfl,rfl⟩,z⟩
 ·refine⟨its.toList,r,⟨o,n,I.oZ a o j,D,hd,by simpa using F⟩,?_⟩
  have e:=r.length
  simp only[Array.length_toList]at e
  omega
theorem Inv.tuple(I:Inv X pins σ H s)(h:cR X.K H a xs):∃its:List Value,Vals xs its∧IsTup s.heap a its.toArray∧xs.length≤sizeLine:=by
 rcases h with h | ⟨o,its,n,j,D,F,hz,r⟩
 ·obtain⟨z,its,r,p⟩:=h.ok I.hok
  exact⟨its,r,p,z⟩
 ·refine⟨its.toList,r,⟨o,I.oZ a o j,D,n,by simpa using F⟩,?_⟩
  have e:=r.length
  simp only[Array.length_toList]at e
  omega
theorem Inv.uD(I:Inv X pins σ H s)(h:bZ X.K H a xs)(h':bZ X.K H a ys):xs=ys:=by
 obtain⟨its,r,⟨o,n,e,_,_,d⟩,_⟩:=I.list h
 obtain⟨its',z,⟨o',F,j,_,_,d'⟩,_⟩:=I.list h'
 rw[e]at j;cases j
 rw[d]at d'
 injection d' with D _
 have:its=its':=by simpa using congrArg Array.toList D
 subst this
 exact r.inj z
theorem Inv.Fp(I:Inv X pins σ H s)(h:cR X.K H a xs)(h':cR X.K H a ys):xs=ys:=by
 obtain⟨its,r,⟨o,e,_,n,d⟩,_⟩:=I.tuple h
 obtain⟨its',z,⟨o',j,_,F,d'⟩,_⟩:=I.tuple h'
 rw[e]at j;cases j
 rw[d]at d'
 injection d' with D _
 have:its=its':=by simpa using congrArg Array.toList D
 subst this
 exact r.inj z
end
section
variable {X:Cx} {pins:List (Addr×Obj)} {σ:St} {H:Hp} {s:Shared} {E:Value→Shared→Prop}
end
section
variable {X:Cx} {st:Stmt} {rest:List Stmt} {t u:TS} {e:Expr} {te:TE} {pos:Pos}
noncomputable def yw:TS:=fun D σ H=>D.nx σ H
noncomputable def Ik(t u:TS):TS:=fun D σ H=>t { D with nx:=u D } σ H
theorem aP:zQ X [] yw:=fun _ _ σ H _ I h=>wpAny_execs_nil ⟨σ,H,I,h⟩
theorem aq(h1:PS X st t)(h2:zQ X rest u):zQ X (st::rest) (Ik t u):=by
 intro pins s σ H D I h
 refine wpAny_execs_cons (cG (h1 pins s σ H { D with nx:=u D } I h) fun f s1 q=>?_)
 cases f with
 | next =>
  obtain⟨σ',H',j,q⟩:=q
  exact h2 pins s1 σ' H' D j q
 | ret v=>exact q
 | brk=>exact q
 | cont=>exact q
theorem ao(h1:PS X st t):zQ X [st] t:=by
 intro pins s σ H D I h
 refine wpAny_execs_cons (cG (h1 pins s σ H D I h) fun f s1 q=>?_)
 cases f with
 | next=>exact wpAny_execs_nil q
 | ret v=>exact q
 | brk=>exact q
 | cont=>exact q
theorem Inv.quiet{pins:List (Addr×Obj)}{σ:St}{H:Hp}{s:Shared}(I:Inv X pins σ H s):interactive X.env=false:=by simp[interactive,I.ok.kind]
noncomputable def yz(te:TE):TS:=fun D σ H=>te σ H fun _ H1=>D.nx σ H1
theorem aN(G:PE X e te)(j:swapsWith e none pos.line X.env=pure false:=by rfl):PS X (.Expr e pos) (yz te):=by
 intro pins s σ H D I h
 exact wpAny_Expr_any (cG (G pins s σ H _ I h) fun v s1 ⟨x,H1,z,J,F⟩=>⟨σ,H1,z,F⟩) I.quiet j
noncomputable def Fv(te:TE):TS:=fun D σ H=>te σ H D.rt
theorem aV(G:PE X e te):PS X (.Return (some e) pos) (Fv te):=by
 intro pins s σ H D I h
 exact wpAny_Return_some (cG (G pins s σ H _ I h) fun v s1 ⟨x,H1,z,j,F⟩=>⟨x,σ,H1,z,j,F⟩)
noncomputable def yt:TS:=fun D _ H=>D.rt .non H
theorem Du:PS X (.Return none pos) yt:=fun _ _ σ H _ I h=>wpAny_Return_none ⟨.non,σ,H,I,rfl,h⟩
noncomputable def Fw(c:TT)(t u:TS):TS:=fun D σ H=>c σ H fun b H1=>if b=true then t D σ H1 else u D σ H1
theorem aX{c:Expr}{a b:List Stmt}{tc:TT}(G:PT X c tc)(F:zQ X a t)(J:zQ X b u):PS X (.If c a b pos) (Fw tc t u):=by
 intro pins s σ H D I h
 refine wpAny_If (cG (G pins s σ H _ I h) fun d s1 ⟨H1,z,j⟩=>?_)
 cases d with
 | true=>exact F pins s1 σ H1 D z j
 | false=>exact J pins s1 σ H1 D z j
end
noncomputable abbrev TG:=V→St→Hp→(St→Hp→Prop)→Prop
noncomputable abbrev S6:=List V→St→Hp→(St→Hp→Prop)→Prop
noncomputable def PG(X:Cx)(target:Expr)(t:TG):Prop :=
 ∀(pins:List (Addr×Obj))(s:Shared)(σ:St)(H:Hp)(v:V)(u:Value)(Q:St→Hp→Prop),Inv X pins σ H s→RelV v u→t v σ H Q →
  wpAny (model X.prog X.w) X.A (assign target X.env u) (fun _ s'=>∃σ' H',Inv X pins σ' H' s'∧Q σ' H') X.xe s
noncomputable def Vl(X:Cx)(ts:List Expr)(t:S6):Prop :=
 ∀(pins:List (Addr×Obj))(s:Shared)(σ:St)(H:Hp)(vs:List V)(us:List Value)(Q:St→Hp→Prop),Inv X pins σ H s→Vals vs us→t vs σ H Q →
  wpAny (model X.prog X.w) X.A (assignInOrder ((assignEach ts X.env).map (·.2)) us) (fun _ s'=>∃σ' H',Inv X pins σ' H' s'∧Q σ' H') X.xe s
section
variable {X:Cx} {pos:Pos}
noncomputable def qQ(i:Nat):TG:=fun v σ H Q=>Q (σ.set i (some v)) H
theorem cX{i:Nat}{x:Str}(z:X.N.Nodup)(hi:X.N[i]?=some x)(hx:Loc X.env.scope x)(j:X.fn x=true∨X.env.scope.names.lookup x=some .local:=by first | exact .inl rfl | exact .inr rfl | assumption):PG X (.Name x pos) (qQ i):=by
 intro pins s σ H v u Q I r h
 exact wpAny_assign_Name (tX I z hi hx r (fun s' D=>⟨_,H,D,h⟩) j)
noncomputable def Wg:S6:=fun vs σ H Q=>vs=[]∧Q σ H
noncomputable def U0(t:TG)(u:S6):S6:=fun vs σ H Q=>∃v r,vs=v::r∧t v σ H fun σ' H'=>u r σ' H' Q
theorem Dz:Vl X [] Wg:=by
 intro pins s σ H vs us Q I r h
 obtain⟨e,h⟩:=h
 subst e
 cases r
 exact assignInOrder_nil ⟨σ,H,I,h⟩
theorem iI{e:Expr}{es:List Expr}{t:TG}{u:S6}(h1:PG X e t)(h2:Vl X es u)
  (z:(assignEach (e::es) X.env).map (·.2)=assign e X.env::(assignEach es X.env).map (·.2):=by rfl):Vl X (e::es) (U0 t u):=by
 intro pins s σ H vs us Q I r h
 obtain⟨v,G,e1,h⟩:=h
 subst e1
 cases r with
 | cons r D =>
  rw[z]
  refine assignInOrder_cons (cG (h1 pins s σ H _ _ _ I r h) fun _ s1 ⟨σ1,H1,F,j⟩=>?_)
  exact h2 pins s1 σ1 H1 _ _ Q F D j
noncomputable def We(K:PySem.W.Frag)(n:Nat)(t:S6):TG:=fun v σ H Q=>∃a xs,v=.ref a∧cR K H a xs∧xs.length=n∧t xs σ H Q
theorem Kh{es:List Expr}{k:Nat}{t:S6}{n:Nat}(L:X.calm=true)(h:Vl X es t)
  (D:(assignEach es X.env).length=n:=by rfl) (j:(assignEach es X.env).findIdx? (·.1)=none:=by rfl):PG X (.Tuple es k pos) (We X.K n t):=by
 intro pins s σ H v u Q I r hw
 obtain⟨a,xs,e1,F,G,hw⟩:=hw
 subst e1
 cases r
 obtain⟨its,z,O,hz⟩:=I.tuple F
 refine assign_Tuple_tuple (I.ok.hd L) O (by simp[D,←G,z.length]) j fun h' hx=>?_
 have J:Inv X pins σ H { s with heap:=h' }:=I.kept (t':=s.toks) fun b o e=>hx b o (i4 (Heap.lt_size e)) e
 exact h pins _ σ H xs _ Q J (by simpa using z) hw
noncomputable def Fx(te:TE)(g:TG):TS:=fun D σ H=>te σ H fun x H1=>g x σ H1 D.nx
theorem bw{i:Nat}{x:Str}{e:Expr}{te:TE}{pos':Pos}(j:X.N.Nodup)(hi:X.N[i]?=some x)(hx:Loc X.env.scope x)(S:PE X e te)(G:swapsWith e (some (.Name x pos')) pos.line X.env=pure false:=by rfl)(L:X.fn x=true∨X.env.scope.names.lookup x=some .local:=by first | exact .inl rfl | exact .inr rfl | assumption) :
  PS X (.Assign [.Name x pos'] e pos) (Fx te (qQ i)):=by
 intro pins s σ H D I h
 refine wpAny_Assign_Name (cG (S pins s σ H _ I h) fun v s1 ⟨y,H1,J,O,F⟩=>?_) G
 exact tX J j hi hx O (fun s2 z=>⟨_,H1,z,F⟩) L
end
section
variable {X:Cx} {pos:Pos}
noncomputable def Q7(c:TT)(tb:TS):TS:=fun D σ H=>∃W:Nat→St→Hp→Prop,(∃m,W m σ H)∧∀m σ H,W m σ H →
 c σ H fun b H1=>if b=true then ∃N:St→Hp→Prop,(∀σ' H',N σ' H'→∃j,j<m∧W j σ' H')∧tb { D with nx:=N,ct:=N,bk:=D.nx } σ H1 else D.nx σ H1
theorem gB{c:Expr}{body:List Stmt}{tc:TT}{tb:TS}(Z:PassesOwn (model X.prog X.w) X.A X.env X.xe)(hc:PT X c tc)(hb:zQ X body tb):PS X (.While c body [] pos) (Q7 tc tb):=by
 intro pins s σ H D I h
 obtain⟨W,⟨m0,w0⟩,turn⟩:=h
 refine wpAny_While (codeAny_whileLoop (fun n s'=>∃σ' H',Inv X pins σ' H' s'∧W n σ' H') ?_ m0 ⟨σ,H,I,w0⟩)
 rintro n s1 ⟨σ1,H1,I1,w1⟩
 refine wpAny_passesOwn Z (cG (hc pins s1 σ1 H1 _ I1 (turn n σ1 H1 w1)) fun b s2 ⟨H2,Y,z⟩=>?_)
 cases b with
 | true =>
  obtain⟨N,U,z⟩:=z
  rw[j4 rfl]
  refine wpAny_passesOwn Z (cG (hb pins s2 σ1 H2 _ Y z) fun f s3 F=>?_)
  cases f with
  | next =>
   obtain⟨σ3,j,O,G⟩:=F
   obtain⟨S,L,J⟩:=U σ3 j G
   exact⟨S,L,σ3,j,O,J⟩
  | cont =>
   obtain⟨σ3,j,O,G⟩:=F
   obtain⟨S,L,J⟩:=U σ3 j G
   exact⟨S,L,σ3,j,O,J⟩
  | brk=>exact F
  | ret v=>exact F
 | false =>
  rw[js ip]
  exact wpAny_execs_nil ⟨σ1,H2,Y,z⟩
end
structure It where
 go:Nat→Hp→Prop
 yld:Nat→Hp→V→Hp→Prop
 stop:Nat→Hp→Prop
noncomputable def mZ(X:Cx)(pins:List (Addr×Obj))(H:Hp)(b:Addr):Prop :=
 H b=none∧b≠X.env.locals∧b∉X.fs∧(b∈X.ex∨X.s_0.heap.objs.size≤b)∧(∀x c,X.env.cells.lookup x=some c→c≠b)∧∀p∈X.pn++pins,p.1≠b
theorem Inv.zr{X:Cx}{pins:List (Addr×Obj)}{σ:St}{H H':Hp}{s:Shared}{b:Addr}(I:Inv X pins σ H s)(j:s.heap.objs.size≤b)(D:H' b=none):mZ X pins H' b:=by
 refine⟨D,Nat.ne_of_gt (ic I.lt j),I.V3 j,.inr (iq I.sz j),fun x c e z=>?_,fun p F z=>?_⟩
 ·obtain⟨v,q⟩:=I.cell x c e
  exact absurd (ic q.lt (by rw[z];exact j)) (Nat.lt_irrefl _)
 ·exact absurd (ic (Heap.lt_size (I.pin p F).1) (by rw[z];exact j)) (Nat.lt_irrefl _)
structure Turn (P:Program) (w:World) (K:PySem.W.Frag) (tg:Expr) (J:It) (fp:List Addr) (it:Addr) (tn:Nat→Heap→Prop):Prop where
 mem:it∈fp
 obj:∀i h,tn i h→∀b∈fp,∃o,h.get? b=some o∧∀v,o.data≠.cell v
 keep:∀i h h',tn i h→(∀b∈fp,∀o,h.get? b=some o→h'.get? b=some o)→tn i h'
 item:∀(X:Cx),X.prog=P→X.w=w→X.K=K→X.calm=true→∀(i:Nat)(pins:List (Addr×Obj))(s:Shared)(σ:St)(H:Hp)(E:Value→Shared→Prop),Inv X pins σ H s→(∀b∈fp,mZ X pins H b)→tn i s.heap→J.go i H →
  wpAny (model P w) X.A (pyNext (.ref it)) (fun r s1=>∃u,r=some u ∧
   wpAny (model P w) X.A (letOwnedTupleGo tg (.ref it) u) (fun _ s2=>∃x H',Inv X pins σ H' s2∧RelV x u∧J.yld i H x H'∧tn (i+1) s2.heap∧∀b∈fp,H' b=none) E s1) E s
 done:∀(X:Cx),X.prog=P→X.w=w→X.K=K→X.calm=true→∀(i:Nat)(pins:List (Addr×Obj))(s:Shared)(σ:St)(H:Hp)(E:Value→Shared→Prop),Inv X pins σ H s→(∀b∈fp,mZ X pins H b)→tn i s.heap→J.stop i H →
  wpAny (model P w) X.A (pyNext (.ref it)) (fun r s1=>r=none∧Inv X pins σ H s1) E s
 self:∀(A:Around)(i:Nat)(s:Shared)(Q:Value→Shared→Prop)(E:Value→Shared→Prop),tn i s.heap→Q (.ref it) s→wpAny (model P w) A (pyIter (.ref it)) Q E s
noncomputable abbrev TI:=St→Hp→(It→Hp→Prop)→Prop
noncomputable def PIE(X:Cx)(pins:List (Addr×Obj))(σ:St)(tg:Expr)(R:It→Hp→Prop)(j:Value)(s2:Shared):Prop :=
 ∃(it:Addr)(fp:List Addr)(tn:Nat→Heap→Prop)(J:It)(H':Hp),j=.ref it∧Inv X pins σ H' s2∧Turn X.prog X.w X.K tg J fp it tn∧tn 0 s2.heap∧(∀b∈fp,mZ X pins H' b)∧R J H'
noncomputable def PI(X:Cx)(tg iter:Expr)(j:TI):Prop :=
 ∀(pins:List (Addr×Obj))(s:Shared)(σ:St)(H:Hp)(R:It→Hp→Prop),Inv X pins σ H s→j σ H R →
  wpAny (model X.prog X.w) X.A (eval iter X.env) (fun v s1=>wpAny (model X.prog X.w) X.A (pyIter v) (PIE X pins σ tg R) X.xe s1) X.xe s
theorem LQ{M:Model}{A:Around}{E:Value→Shared→Prop}{s:Shared}{tg:Expr}{it:Addr}{u:Value}{o:Obj}{n:String}{vs:Array Value}{Q:Unit→Shared→Prop}(F:s.heap.get? it=some o)(z:o.cls=.type n)(hd:o.data=.fields vs)
    (D:["enumerate","zip","dict_itemiterator","dict_reverseitemiterator","odict_iterator","itertools.zip_longest","itertools.pairwise"].contains n=false) (j:Q () s):wpAny M A (letOwnedTupleGo tg (.ref it) u) Q E s:=by
  unfold letOwnedTupleGo
  cases tg<;>first
    | exact wpAny_pure j
    | (cases u<;>first
        | exact wpAny_pure j
        | (refine wpAny_bind (wpAny_load F ?_)
           rw[z,hd]
           show wpAny M A (if(["enumerate","zip","dict_itemiterator","dict_reverseitemiterator","odict_iterator","itertools.zip_longest","itertools.pairwise"].contains n&&vs[0]?==some (rawInt _))=true then _ else _) Q E s
           rw[js (by intro h;rw[D,Bool.false_and]at h;cases h)]
           exact wpAny_pure j))
noncomputable def QV(K:PySem.W.Frag)(a:Addr):It :=
 ⟨fun i H=>∃xs x,bZ K H a xs∧xs[i]?=some x,fun i H x H'=>H'=H∧∀xs,bZ K H a xs→xs[i]?=some x,fun i H=>∃xs,bZ K H a xs∧xs.length≤i⟩
noncomputable def Vc(K:PySem.W.Frag)(a:Addr):It :=
 ⟨fun i H=>∃xs x,cR K H a xs∧xs[i]?=some x,fun i H x H'=>H'=H∧∀xs,cR K H a xs→xs[i]?=some x,fun i H=>∃xs,cR K H a xs∧xs.length≤i⟩
noncomputable def Tq(lo:Int)(n:Nat):It:=⟨fun i _=>i<n,fun i H x H'=>H'=H∧x=.int (lo+i),fun i _=>n≤i⟩
theorem Fo{P:Program}{w:World}{K:PySem.W.Frag}{tg:Expr}(a it:Addr):Turn P w K tg (QV K a) [it] it (fun i h=>h.IsListIter it a i) where
 mem:=by simp
 obj:=fun i h st b j=>by
  have e:b=it:=by simpa using j
  subst e
  obtain⟨o,e,c,d⟩:=st
  exact⟨o,e,fun v z=>by rw[d]at z;cases z⟩
 keep:=fun i h h' st k=>st.at fun o e=>k it (by simp) o e
 item:=by
  intro X hP hw U hc i pins s σ H E I G st Y
  subst hP hw U
  obtain⟨xs,x,F,hx⟩:=Y
  obtain⟨its,Z,p,hz⟩:=I.list F
  obtain⟨u,hu,ru⟩:=Z.get hx
  obtain⟨O,f1,f2,J,S,L⟩:=G it (by simp)
  refine wpAny_pyNext_list_item st p.isList (x:=u) (by simpa using hu) fun h' D sb=>?_
  have I1:Inv X pins σ H { s with heap:=h' }:=I.turned (t':=s.toks) (fun b o j e=>(sb.2 b j).trans e) O f1 J S L
  obtain⟨o,e,c,d⟩:=id D
  exact⟨u,rfl,LQ (s:={ s with heap:=h' }) e c d (by decide) ⟨x,H,I1,ru,⟨rfl,fun ys hy=>by rw[I.uD hy F];exact hx⟩,D,fun b j=>(G b j).1⟩⟩
 done:=by
  intro X hP hw U hc i pins s σ H E I G st Y
  subst hP hw U
  obtain⟨xs,F,hx⟩:=Y
  obtain⟨its,Z,p,hz⟩:=I.list F
  obtain⟨O,f1,f2,J,S,L⟩:=G it (by simp)
  have hl:=Z.length
  exact wpAny_pyNext_list_end (I.ok.hd hc) st p.isList (by simp;omega) fun h' eb=>⟨rfl,I.turned (t':=s.toks) (fun b o j e=>eb b o j e) O f1 J S L⟩
 self:=fun _ _ _ _ _ st h=>wpAny_pyIter_listiter st h
theorem zY{P:Program}{w:World}{K:PySem.W.Frag}{tg:Expr}(a it:Addr):Turn P w K tg (Vc K a) [it] it (fun i h=>h.IsTupleIter it a i) where
 mem:=by simp
 obj:=fun i h st b j=>by
  have e:b=it:=by simpa using j
  subst e
  obtain⟨o,e,c,d⟩:=st
  exact⟨o,e,fun v z=>by rw[d]at z;cases z⟩
 keep:=fun i h h' st k=>st.at fun o e=>k it (by simp) o e
 item:=by
  intro X hP hw U hc i pins s σ H E I G st Y
  subst hP hw U
  obtain⟨xs,x,F,hx⟩:=Y
  obtain⟨its,Z,p,hz⟩:=I.tuple F
  obtain⟨u,hu,ru⟩:=Z.get hx
  obtain⟨O,f1,f2,J,S,L⟩:=G it (by simp)
  refine wpAny_pyNext_tuple_item st (show s.heap.IsTuple a its.toArray from p) (x:=u) (by simpa using hu) fun h' D sb=>?_
  have I1:Inv X pins σ H { s with heap:=h' }:=I.turned (t':=s.toks) (fun b o j e=>(sb.2 b j).trans e) O f1 J S L
  obtain⟨o,e,c,d⟩:=id D
  exact⟨u,rfl,LQ (s:={ s with heap:=h' }) e c d (by decide) ⟨x,H,I1,ru,⟨rfl,fun ys hy=>by rw[I.Fp hy F];exact hx⟩,D,fun b j=>(G b j).1⟩⟩
 done:=by
  intro X hP hw U hc i pins s σ H E I G st Y
  subst hP hw U
  obtain⟨xs,F,hx⟩:=Y
  obtain⟨its,Z,p,hz⟩:=I.tuple F
  obtain⟨O,f1,f2,J,S,L⟩:=G it (by simp)
  have hl:=Z.length
  exact wpAny_pyNext_tuple_end (I.ok.hd hc) st (show s.heap.IsTuple a its.toArray from p) (by simp;omega) fun h' eb=>⟨rfl,I.turned (t':=s.toks) (fun b o j e=>eb b o j e) O f1 J S L⟩
 self:=fun _ _ _ _ _ st h=>wpAny_pyIter_tupleiter st h
theorem zZ{P:Program}{w:World}{K:PySem.W.Frag}{tg:Expr}(it:Addr)(lo:Int)(n:Nat):Turn P w K tg (Tq lo n) [it] it (fun i h=>IsRangeIter h it (lo+(i:Nat)*1) ((n:Int)-(i:Nat)) 1) where
 mem:=by simp
 obj:=fun i h st b j=>by
  have e:b=it:=by simpa using j
  subst e
  exact⟨_,st,fun v z=>by
   have z':Data.fields _=Data.cell v:=z
   cases z'⟩
 keep:=fun i h h' st k=>k it (by simp) _ st
 item:=by
  intro X Z hw S U i pins s σ H E I F st Y
  subst Z hw S
  obtain⟨L,f1,f2,G,O,J⟩:=F it (by simp)
  have W:=Walks.range (prog:=X.prog) (w:=X.w) (I.ok.hd U) it lo 1 n
  refine W.item i s _ _ Y st fun v h' tk hv D kk=>?_
  obtain⟨t,rfl⟩:=hv
  have I1:Inv X pins σ H { s with heap:=h',toks:=tk }:=I.turned (fun b o j e=>kk b o (by simpa using j) e) L f1 G O J
  refine⟨_,rfl,LQ (s:={ s with heap:=h',toks:=tk }) (n:="range_iterator") D rfl rfl (by decide) ⟨.int (lo+i),H,I1,⟨t,?_⟩,⟨rfl,rfl⟩,D,fun b j=>(F b j).1⟩⟩
  rw[Int.mul_one]
 done:=by
  intro X Z hw S U i pins s σ H E I F st Y
  subst Z hw S
  obtain⟨L,f1,f2,G,O,J⟩:=F it (by simp)
  exact wpAny_pyNext_range_end (I.ok.hd U) st (by have:n≤i:=Y;omega) fun h' eb=>⟨rfl,I.turned (t':=s.toks) (fun b o j e=>eb b o j e) L f1 G O J⟩
 self:=fun _ _ _ _ _ st h=>wpAny_pyIter_rangeiter st h
end L2
namespace L2
open PySem PySem.Spec PyProof.Rows
section
variable {X:Cx} {tg:Expr}
noncomputable def UT(K:PySem.W.Frag)(tl:TE):TI:=fun σ H R=>tl σ H fun x H1=>∃a,x=.ref a∧(∃xs,bZ K H1 a xs)∧R (QV K a) H1
noncomputable def Wd(K:PySem.W.Frag)(tl:TE):TI:=fun σ H R=>tl σ H fun x H1=>∃a,x=.ref a∧(∃xs,cR K H1 a xs)∧R (Vc K a) H1
theorem jj{l:Expr}{tl:TE}(F:PE X l tl):PI X tg l (UT X.K tl):=by
 intro pins s σ H R I h
 refine cG (F pins s σ H _ I h) fun v s1 ⟨x,H1,j,J,z⟩=>?_
 obtain⟨a,e,⟨xs,D⟩,q⟩:=z
 subst e
 cases J
 obtain⟨its,L,p,hz⟩:=j.list D
 refine wpAny_pyIter_list p.isList ?_
 refine⟨s1.heap.objs.size,[s1.heap.objs.size],_,_,H1,rfl,j.kept (t':=s1.toks) fun b o e=>Heap.get?_push_of_some _ e,Fo a _,⟨_,Heap.get?_push_size _ rfl,rfl,rfl⟩,fun b G=>?_,q⟩
 have e:b=s1.heap.objs.size:=by simpa using G
 subst e
 exact j.zr (f' _) (j.hok.fresh (f' _))
theorem Kg{l:Expr}{tl:TE}(F:PE X l tl):PI X tg l (Wd X.K tl):=by
 intro pins s σ H R I h
 refine cG (F pins s σ H _ I h) fun v s1 ⟨x,H1,j,J,z⟩=>?_
 obtain⟨a,e,⟨xs,D⟩,q⟩:=z
 subst e
 cases J
 obtain⟨its,L,p,hz⟩:=j.tuple D
 refine wpAny_pyIter_tuple (show s1.heap.IsTuple a its.toArray from p) ?_
 refine⟨s1.heap.objs.size,[s1.heap.objs.size],_,_,H1,rfl,j.kept (t':=s1.toks) fun b o e=>Heap.get?_push_of_some _ e,zY a _,⟨_,Heap.get?_push_size _ rfl,rfl,rfl⟩,fun b G=>?_,q⟩
 have e:b=s1.heap.objs.size:=by simpa using G
 subst e
 exact j.zr (f' _) (j.hok.fresh (f' _))
theorem J8{pins:List (Addr×Obj)}{σ:St}{H:Hp}{s:Shared}{R:It→Hp→Prop}{E:Value→Shared→Prop}{lo hi:Int}{t u v:Tok}{tk:Nat}(I:Inv X pins σ H s)(h1:-(2 ^ 62)≤lo)(h2:lo<2 ^ 62)(z:-(2 ^ 62)≤hi)(D:hi<2 ^ 62)
  (q:R (Tq lo (hi-lo).toNat) H):wpAny (model X.prog X.w) X.A (pyIter (.ref s.heap.objs.size)) (PIE X pins σ tg R) E { s with heap:=s.heap.push { cls:=.type "range",data:=.fields #[.int lo t,.int hi u,.int 1 v] },toks:=tk }:=by
 refine wpAny_pyIter_range (IsRange.new ..) (small_one h1 h2 z D) ?_
 have j:Inv X pins σ H { s with heap:=s.heap.push { cls:=.type "range",data:=.fields #[.int lo t,.int hi u,.int 1 v] },toks:=tk }:=I.kept fun b o e=>Heap.get?_push_of_some _ e
 refine⟨(s.heap.push { cls:=.type "range",data:=.fields #[.int lo t,.int hi u,.int 1 v] }).objs.size,[(s.heap.push { cls:=.type "range",data:=.fields #[.int lo t,.int hi u,.int 1 v] }).objs.size],_,_,H,rfl,
  j.kept (t':=tk) fun b o e=>Heap.get?_push_of_some _ e,zZ _ lo (hi-lo).toNat,?_,fun b F=>?_,q⟩
 ·have e1:lo+((0:Nat):Int)*1=lo:=by simp
  have e2:(((hi-lo).toNat:Nat):Int)-((0:Nat):Int)=Builtin.Range.rangeSize lo hi 1:=by rw[rangeSize_one];split<;>omega
  show IsRangeIter _ _ (lo+((0:Nat):Int)*1) ((((hi-lo).toNat:Nat):Int)-((0:Nat):Int)) 1
  rw[e1,e2]
  exact Heap.get?_push_size _ rfl
 ·have e:b=(s.heap.push { cls:=.type "range",data:=.fields #[.int lo t,.int hi u,.int 1 v] }).objs.size:=by simpa using F
  subst e
  exact j.zr (f' _) (j.hok.fresh (f' _))
noncomputable def UL(ta:TA):TI:=fun σ H R=>ta σ H fun vs H1=>∃i j:Int,vs=[.int i,.int j]∧(-(2 ^ 62)≤i∧i<2 ^ 62∧-(2 ^ 62)≤j∧j<2 ^ 62)∧R (Tq i (j-i).toNat) H1
theorem Gk{a b:Expr}{ta:TA}{p pos:Pos}(Z:Gl X "range")(S:X.mg "range"=none)(U:PA X [a,b] ta)(O:starEach [a,b] X.env=[(false,eval a X.env),(false,eval b X.env)]:=by rfl)(z:starEach [b] X.env=[(false,eval b X.env)]:=by rfl) :
  PI X tg (.Call (.Name "range" p) [a,b] [] pos) (UL ta):=by
 intro pins s σ H R I h
 refine Call_ (qe I Z S boot_range (PyProof.Rows.callWith_type1 (cG (U pos pins s σ H _ I h) fun us s1 ⟨vs,H1,Y,r1,D⟩=>?_) (by rw[O,z]) (by rw[z];rfl)))
 obtain⟨i,j,e,⟨D,J,L,G⟩,q⟩:=D
 subst e
 cases r1 with
 | cons r F =>
  cases F with
  | cons r' F =>
   cases F
   obtain⟨t,rfl⟩:=r
   obtain⟨t',rfl⟩:=r'
   exact call_range_2 (J8 Y D J L G q)
noncomputable def Vv(z:TI)(g:TG)(tb:TS):TS:=fun D σ H=>z σ H fun J H1=>∃W:Nat→Nat→St→Hp→Prop,(∃m,W 0 m σ H1)∧∀i m σ H,W i m σ H →
 (J.stop i H∧D.nx σ H)∨(J.go i H∧∃N:St→Hp→Prop,(∀σ' H',N σ' H'→∃j,j<m∧W (i+1) j σ' H')∧∀x H',J.yld i H x H'→g x σ H' fun σ2 H2=>tb { D with nx:=N,ct:=N,bk:=D.nx } σ2 H2)
noncomputable def pY(fp:List Addr)(h:Heap):List (Addr×Obj):=fp.filterMap fun b=>(h.get? b).map fun o=>(b,o)
theorem jm{fp:List Addr}{h:Heap}{b:Addr}{o:Obj}(j:b∈fp)(e:h.get? b=some o):(b,o)∈pY fp h:=List.mem_filterMap.mpr ⟨b,j,by rw[e];rfl⟩
theorem Gy{fp:List Addr}{h:Heap}{p:Addr×Obj}(D:p∈pY fp h):p.1∈fp∧h.get? p.1=some p.2:=by
 obtain⟨b,z,e⟩:=List.mem_filterMap.mp D
 cases q:h.get? b with
 | none=>rw[q]at e;cases e
 | some o =>
  rw[q]at e
  have j:(b,o)=p:=Option.some.inj e
  subst j
  exact⟨z,q⟩
theorem Inv.pinned{pins:List (Addr×Obj)}{σ:St}{H:Hp}{s:Shared}{fp:List Addr}(I:Inv X pins σ H s)(J:∀b∈fp,mZ X pins H b)(G:∀b∈fp,∃o,s.heap.get? b=some o∧∀v,o.data≠.cell v):Inv X (pins++pY fp s.heap) σ H s :=
 I.wZ fun p L=>(List.mem_append.mp L).elim (fun z=>I.pin p (List.mem_append_right _ z)) fun z=>by
  obtain⟨D,e⟩:=Gy z
  obtain⟨F,f1,f2,_⟩:=J p.1 D
  obtain⟨o,j,d⟩:=G p.1 D
  rw[e]at j;cases j
  exact⟨e,F,f1,f2,d⟩
theorem Inv.jN{pins pl:List (Addr×Obj)}{σ:St}{H:Hp}{s:Shared}(I:Inv X (pins++pl) σ H s):Inv X pins σ H s:=I.wZ fun p j=>I.pin p (List.mem_append_right _ (List.mem_append_left _ j))
theorem uq{iter:Expr}{body:List Stmt}{wi:TI}{g:TG}{tb:TS}{pos:Pos}(Z:PassesOwn (model X.prog X.w) X.A X.env X.xe)(hc:X.calm=true)(hi:PI X tg iter wi)(hg:PG X tg g)(j:zQ X body tb)
  (hs:∀x,foldedSetIterable iter X.env x=pure x:=by intro _;rfl):PS X (.For tg iter body [] pos) (Vv wi g tb):=by
 intro pins s σ H D I h
 refine wpAny_For (cG (hi pins s σ H _ I h) fun v s1 h1=>cG h1 fun af s2 h2=>?_) hs
 obtain⟨it,fp,tn,J,H2,e,I2,T,ac,f2,W,⟨m0,w0⟩,turn⟩:=h2
 subst e
 have G:∀{H':Hp},(∀b∈fp,H' b=none)→∀b∈fp,mZ X pins H' b:=fun hn b j=>⟨hn b j,(f2 b j).2⟩
 refine codeAny_forLoop_any (fun n s'=>∃i σ' H',Inv X pins σ' H' s'∧tn i s'.heap∧(∀b∈fp,H' b=none)∧W i n σ' H') ?_ m0 ⟨0,σ,H2,I2,ac,fun b j=>(f2 b j).1,w0⟩
 rintro n s3 ⟨i,σ3,H3,I3,S,Y,w3⟩
 rcases turn i n σ3 H3 w3 with⟨stop,qn⟩ | ⟨go,N,hN,step⟩
 ·refine wpAny_passesOwn Z (cG (T.done X rfl rfl rfl hc i pins s3 σ3 H3 X.xe I3 (G Y) S stop) fun r s4 ⟨hr,I4⟩=>?_)
  subst hr
  exact wpAny_execs_nil ⟨σ3,H3,I4,qn⟩
 ·refine wpAny_passesOwn Z (cG (T.item X rfl rfl rfl hc i pins s3 σ3 H3 X.xe I3 (G Y) S go) fun r s4 ⟨u,hr,h4⟩=>?_)
  subst hr
  refine wpAny_passesOwn Z (cG h4 fun _ s5 hz=>?_)
  obtain⟨x,H5,I5,r5,y5,O,ae⟩:=hz
  have aa:=I5.pinned (G ae) (T.obj _ _ O)
  refine wpAny_passesOwn Z (cG (hg _ s5 σ3 H5 x u _ aa r5 (step x H5 y5)) fun _ s6 ⟨σ6,H6,I6,q6⟩=>?_)
  refine wpAny_passesOwn Z (cG (j _ s6 σ6 H6 _ I6 q6) fun f s7 L=>?_)
  have again:∀{σ7:St}{F:Hp},Inv X (pins++pY fp s5.heap) σ7 F s7→N σ7 F→∃m,m<n∧∃i σ' H',Inv X pins σ' H' s7∧tn i s7.heap∧(∀b∈fp,H' b=none)∧W i m σ' H':=fun{σ7 F} z U=>by
   obtain⟨m',hm,w7⟩:=hN σ7 F U
   refine⟨m',hm,i+1,σ7,F,z.jN,T.keep _ _ _ O fun b j o e=>(z.pin (b,o) (List.mem_append_right _ (List.mem_append_right _ (jm j e)))).1,fun b j=>?_,w7⟩
   obtain⟨o,e,d⟩:=T.obj _ _ O b j
   exact(z.pin (b,o) (List.mem_append_right _ (List.mem_append_right _ (jm j e)))).2.1
  cases f with
  | next=>obtain⟨σ7,F,z,U⟩:=L;exact again z U
  | cont=>obtain⟨σ7,F,z,U⟩:=L;exact again z U
  | brk=>obtain⟨σ7,F,z,L⟩:=L;exact⟨σ7,F,z.jN,L⟩
  | ret v=>obtain⟨x7,σ7,F,z,r7,L⟩:=L;exact⟨x7,σ7,F,z.jN,r7,L⟩
end
theorem Ma{K:PySem.W.Frag}{a:Addr}{xs:List V}{g:TG}{tb:TS}{D:Ends}{σ:St}{H:Hp}(Pv:Nat→St→Hp→Prop)(h0:Pv 0 σ H)(G:∀i σ H,i≤xs.length→Pv i σ H→bZ K H a xs)
  (F:∀i x σ H,xs[i]?=some x→Pv i σ H→g x σ H fun σ2 H2=>tb { D with nx:=Pv (i+1),ct:=Pv (i+1),bk:=D.nx } σ2 H2) (hd:∀σ H,Pv xs.length σ H→D.nx σ H) :
  ∃W:Nat→Nat→St→Hp→Prop,(∃m,W 0 m σ H)∧∀i m σ H,W i m σ H →
   ((QV K a).stop i H∧D.nx σ H)∨((QV K a).go i H∧∃N:St→Hp→Prop,(∀σ' H',N σ' H'→∃z,z<m∧W (i+1) z σ' H')∧∀x H',(QV K a).yld i H x H'→g x σ H' fun σ2 H2=>tb { D with nx:=N,ct:=N,bk:=D.nx } σ2 H2):=by
 refine⟨fun i m σ H=>m=xs.length-i∧i≤xs.length∧Pv i σ H,⟨xs.length,by simp,Nat.zero_le _,h0⟩,?_⟩
 rintro i m σ H ⟨rfl,hi,p⟩
 have q:=G i σ H hi p
 by_cases j:i<xs.length
 ·refine .inr ⟨⟨xs,xs[i],q,by simp[j]⟩,Pv (i+1),fun σ' H' J=>⟨xs.length-(i+1),by omega,rfl,j,J⟩,fun x H' y=>?_⟩
  obtain⟨e,y⟩:=y
  subst e
  exact F i x σ _ (y xs q) p
 ·have e:i=xs.length:=by omega
  subst e
  exact .inl ⟨⟨xs,q,f' _⟩,hd σ H p⟩
theorem Ef{K:PySem.W.Frag}{a:Addr}{xs:List V}{g:TG}{tb:TS}{D:Ends}{σ:St}{H:Hp}(Pv:Nat→St→Hp→Prop)(h0:Pv 0 σ H)(G:∀i σ H,i≤xs.length→Pv i σ H→cR K H a xs)
  (F:∀i x σ H,xs[i]?=some x→Pv i σ H→g x σ H fun σ2 H2=>tb { D with nx:=Pv (i+1),ct:=Pv (i+1),bk:=D.nx } σ2 H2) (hd:∀σ H,Pv xs.length σ H→D.nx σ H) :
  ∃W:Nat→Nat→St→Hp→Prop,(∃m,W 0 m σ H)∧∀i m σ H,W i m σ H →
   ((Vc K a).stop i H∧D.nx σ H)∨((Vc K a).go i H∧∃N:St→Hp→Prop,(∀σ' H',N σ' H'→∃z,z<m∧W (i+1) z σ' H')∧∀x H',(Vc K a).yld i H x H'→g x σ H' fun σ2 H2=>tb { D with nx:=N,ct:=N,bk:=D.nx } σ2 H2):=by
 refine⟨fun i m σ H=>m=xs.length-i∧i≤xs.length∧Pv i σ H,⟨xs.length,by simp,Nat.zero_le _,h0⟩,?_⟩
 rintro i m σ H ⟨rfl,hi,p⟩
 have q:=G i σ H hi p
 by_cases j:i<xs.length
 ·refine .inr ⟨⟨xs,xs[i],q,by simp[j]⟩,Pv (i+1),fun σ' H' J=>⟨xs.length-(i+1),by omega,rfl,j,J⟩,fun x H' y=>?_⟩
  obtain⟨e,y⟩:=y
  subst e
  exact F i x σ _ (y xs q) p
 ·have e:i=xs.length:=by omega
  subst e
  exact .inl ⟨⟨xs,q,f' _⟩,hd σ H p⟩
theorem Hf{lo:Int}{n:Nat}{g:TG}{tb:TS}{D:Ends}{σ:St}{H:Hp}(Pv:Nat→St→Hp→Prop)(h0:Pv 0 σ H)
  (F:∀i σ H,i<n→Pv i σ H→g (.int (lo+i)) σ H fun σ2 H2=>tb { D with nx:=Pv (i+1),ct:=Pv (i+1),bk:=D.nx } σ2 H2) (hd:∀σ H,Pv n σ H→D.nx σ H) :
  ∃W:Nat→Nat→St→Hp→Prop,(∃m,W 0 m σ H)∧∀i m σ H,W i m σ H →
   ((Tq lo n).stop i H∧D.nx σ H)∨((Tq lo n).go i H∧∃N:St→Hp→Prop,(∀σ' H',N σ' H'→∃z,z<m∧W (i+1) z σ' H')∧∀x H',(Tq lo n).yld i H x H'→g x σ H' fun σ2 H2=>tb { D with nx:=N,ct:=N,bk:=D.nx } σ2 H2):=by
 refine⟨fun i m σ H=>m=n-i∧i≤n∧Pv i σ H,⟨n,by simp,Nat.zero_le _,h0⟩,?_⟩
 rintro i m σ H ⟨rfl,hi,p⟩
 by_cases j:i<n
 ·refine .inr ⟨j,Pv (i+1),fun σ' H' G=>⟨n-(i+1),by omega,rfl,j,G⟩,fun x H' y=>?_⟩
  obtain⟨e,y⟩:=y
  subst e y
  exact F i σ _ j p
 ·have e:i=n:=by omega
  subst e
  exact .inl ⟨f' _,hd σ H p⟩
end L2
namespace L2
open PySem PySem.Spec PyProof.Rows
noncomputable abbrev R2:=V→V→Hp→VK→Prop
noncomputable def pL(X:Cx)(f:Value→Value→Sem Value)(r:R2):Prop :=
 ∀(pins:List (Addr×Obj))(s:Shared)(σ:St)(H:Hp)(x y:V)(v u:Value)(Q:VK),Inv X pins σ H s→RelV x v→RelV y u→r x y H Q →
  wpAny (model X.prog X.w) X.A (f v u) (EP X pins σ Q) X.xe s
noncomputable def Wl(X:Cx)(f:Value→Sem Value)(r:V→Hp→VK→Prop):Prop :=
 ∀(pins:List (Addr×Obj))(s:Shared)(σ:St)(H:Hp)(x:V)(v:Value)(Q:VK),Inv X pins σ H s→RelV x v→r x H Q →
  wpAny (model X.prog X.w) X.A (f v) (EP X pins σ Q) X.xe s
noncomputable def nu(X:Cx)(f:Value)(r:List V→Hp→VK→Prop):Prop :=
 ∀(pins:List (Addr×Obj))(s:Shared)(σ:St)(H:Hp)(xs:List V)(us:List Value)(Q:VK),Inv X pins σ H s→Vals xs us→r xs H Q →
  wpAny (model X.prog X.w) X.A (call f us) (EP X pins σ Q) X.xe s
noncomputable def Wm(X:Cx)(r:V→Hp→(Bool→Hp→Prop)→Prop):Prop :=
 ∀(pins:List (Addr×Obj))(s:Shared)(σ:St)(H:Hp)(x:V)(v:Value)(Q:Bool→Hp→Prop),Inv X pins σ H s→RelV x v→r x H Q →
  wpAny (model X.prog X.w) X.A (truthy v) (TP X pins σ Q) X.xe s
noncomputable def Io(r:R2)(ta tb:TE):TE:=fun σ H Q=>ta σ H fun x H1=>tb σ H1 fun y H2=>r x y H2 Q
noncomputable def Wz(r:V→Hp→VK→Prop)(ta:TE):TE:=fun σ H Q=>ta σ H fun x H1=>r x H1 Q
noncomputable def rI(C:Int→Int→Prop)(g:Int→Int→V):R2:=fun x y H Q=>∃i j,x=.int i∧y=.int j∧C i j∧Q (g i j) H
noncomputable def Ay(g:Int→Int→V):R2:=fun x y H Q=>∃i j,x=.int i∧y=.int j∧Q (g i j) H
noncomputable def rU(g:Int→V):V→Hp→VK→Prop:=fun x H Q=>∃i,x=.int i∧Q (g i) H
section
variable {X:Cx} {a b c:Expr} {ta tb tc:TE} {pos:Pos}
theorem SM(G:PE X a ta)(O:PE X b tb){pins:List (Addr×Obj)}{s:Shared}{σ:St}{H:Hp}{R:V→V→Hp→Prop}(I:Inv X pins σ H s)
  (h:ta σ H fun x H1=>tb σ H1 fun y H2=>R x y H2) {Q:Value→Shared→Prop} {f:Value→Value→Sem Value}
  (L:∀v u s2 x y H2,Inv X pins σ H2 s2→RelV x v→RelV y u→R x y H2→wpAny (model X.prog X.w) X.A (f v u) Q X.xe s2) :
  wpAny (model X.prog X.w) X.A (eval a X.env) (fun v s₁=>wpAny (model X.prog X.w) X.A (eval b X.env) (fun u s₂=>wpAny (model X.prog X.w) X.A (f v u) Q X.xe s₂) X.xe s₁) X.xe s:=by
 refine cG (G pins s σ H _ I h) fun v s1 ⟨x,H1,J,S,F⟩=>?_
 refine cG (O pins s1 σ H1 _ J F) fun u s2 ⟨y,H2,z,D,j⟩=>?_
 exact L v u s2 x y H2 z S D j
theorem dw{op:Operator}{r:R2}(F:pL X (binaryOp op) r)(D:PE X a ta)(J:PE X b tb):PE X (.BinOp a op b pos) (Io r ta tb):=by
 intro pins s σ H Q I h
 exact wpAny_BinOp (SM D J I h fun v u s2 x y H2 z j G q=>F pins s2 σ H2 x y v u Q z j G q)
theorem eN{op:UnaryOp}{r:V→Hp→VK→Prop}(G:Wl X (unaryOp op) r)(z:PE X a ta):PE X (.UnaryOp op a pos) (Wz r ta):=by
 intro pins s σ H Q I h
 exact UnaryOp_ (cG (z pins s σ H _ I h) fun v s1 ⟨x,H1,D,j,F⟩=>G pins s1 σ H1 x v Q D j F)
theorem V2{f:Value→Value→Sem Value}{C:Int→Int→Prop}{g:Int→Int→Int}
  (rule:∀(i j:Int)(t u:Tok)(s:Shared)(Q:Value→Shared→Prop)(E:Value→Shared→Prop),C i j→Q (.int (g i j) s.toks) { s with toks:=s.toks+1 }→wpAny (model X.prog X.w) X.A (f (.int i t) (.int j u)) Q E s) :
  pL X f (rI C fun i j=>.int (g i j)):=by
 intro pins s σ H x y v u Q I z F h
 obtain⟨i,j,rfl,rfl,D,q⟩:=h
 obtain⟨t,rfl⟩:=z
 obtain⟨t',rfl⟩:=F
 exact rule i j t t' s _ _ D ⟨.int (g i j),H,I.tok _,⟨_,rfl⟩,q⟩
theorem Uq{f:Value→Value→Sem Value}{g:Int→Int→Int}
  (rule:∀(i j:Int)(t u:Tok)(s:Shared)(Q:Value→Shared→Prop)(E:Value→Shared→Prop),Q (.int (g i j) s.toks) { s with toks:=s.toks+1 }→wpAny (model X.prog X.w) X.A (f (.int i t) (.int j u)) Q E s) :
  pL X f (Ay fun i j=>.int (g i j)):=by
 intro pins s σ H x y v u Q I z D h
 obtain⟨i,j,rfl,rfl,q⟩:=h
 obtain⟨t,rfl⟩:=z
 obtain⟨t',rfl⟩:=D
 exact rule i j t t' s _ _ ⟨.int (g i j),H,I.tok _,⟨_,rfl⟩,q⟩
theorem Oh{f:Value→Value→Sem Value}{g:Int→Int→Bool}
  (rule:∀(i j:Int)(t u:Tok)(s:Shared)(Q:Value→Shared→Prop)(E:Value→Shared→Prop),Q (.bool (g i j)) s→wpAny (model X.prog X.w) X.A (f (.int i t) (.int j u)) Q E s) :
  pL X f (Ay fun i j=>.bl (g i j)):=by
 intro pins s σ H x y v u Q I z D h
 obtain⟨i,j,rfl,rfl,q⟩:=h
 obtain⟨t,rfl⟩:=z
 obtain⟨t',rfl⟩:=D
 exact rule i j t t' s _ _ ⟨.bl (g i j),H,I,rfl,q⟩
noncomputable def Te(i j:Int):Prop:=(-(2 ^ 64)<i∧i<2 ^ 64)∨(-(2 ^ 64)<j∧j<2 ^ 64)
theorem Te.ok{i j:Int}(h:Te i j):IntMulOk i j:=by
 rcases h with⟨h1,h2⟩ | ⟨h1,h2⟩
 ·exact .of_left (intBits_le_64 h1 h2)
 ·exact .of_right (intBits_le_64 h1 h2)
theorem pZ:pL X (binaryOp .Add) (Ay fun i j=>.int (i+j)):=Uq fun _ _ _ _ _ _ _ q=>add_int q
theorem uz:pL X (binaryOp .Sub) (Ay fun i j=>.int (i-j)):=Uq fun _ _ _ _ _ _ _ q=>sub_int q
theorem KH:pL X (binaryOp .Mult) (rI Te fun i j=>.int (i*j)):=V2 fun _ _ _ _ _ _ _ z q=>mul_int q z.ok
theorem RK:pL X (binaryOp .Mod) (rI (fun _ j=>0<j) fun i j=>.int (i % j)):=V2 fun i j _ _ _ _ _ z q=>by
 have h1:(0:Int)<j:=z
 exact mod_int' (by omega) (by rw[Int.fmod_eq_emod_of_nonneg i (by omega)];exact q)
theorem Wy{f:Value→Sem Value}{g:Int→Int}
  (rule:∀(i:Int)(t:Tok)(s:Shared)(Q:Value→Shared→Prop)(E:Value→Shared→Prop),Q (.int (g i) s.toks) { s with toks:=s.toks+1 }→wpAny (model X.prog X.w) X.A (f (.int i t)) Q E s) :
  Wl X f (rU fun i=>.int (g i)):=by
 intro pins s σ H x v Q I j h
 obtain⟨i,rfl,q⟩:=h
 obtain⟨t,rfl⟩:=j
 exact rule i t s _ _ ⟨.int (g i),H,I.tok _,⟨_,rfl⟩,q⟩
theorem cW:Wl X (unaryOp .USub) (rU fun i=>.int (-i)):=Wy fun _ _ _ _ _ q=>neg_int q
end
noncomputable def Aq:V→V→Bool
 | .non,.non=>true | .non,.int _=>true | .int _,.non=>true | .non,.bl _=>true | .bl _,.non=>true | .non,.str _=>true | .str _,.non=>true
 | .int _,.int _=>true | .bl _,.bl _=>true | .str _,.str _=>true | .byt _,.byt _=>true
 | .int _,.str _=>true | .str _,.int _=>true | .bl _,.str _=>true | .str _,.bl _=>true
 | _,_=>false
noncomputable def Uo:R2:=fun x y H Q=>Aq x y=true∧Q (.bl (decide (x=y))) H
noncomputable def Ul:R2:=fun x y H Q=>Aq x y=true∧Q (.bl (!decide (x=y))) H
theorem Em{i j:Int}:decide (V.int i=V.int j)=(i==j):=by
 rw[i2]
 simp
theorem Ml{i j:Bool}:decide (V.bl i=V.bl j)=(i==j):=by
 rw[i2]
 simp
theorem El{i j:Str}:decide (V.str i=V.str j)=(i==j):=by
 rw[i2]
 simp
theorem En{i j:Array UInt8}:decide (V.byt i=V.byt j)=(i.toList==j.toList):=by
 rw[i2]
 cases i
 cases j
 simp
section
variable {X:Cx} {a b c:Expr} {ta tb tc:TE} {pos:Pos}
theorem bL{pins:List (Addr×Obj)}{σ:St}{H:Hp}{s:Shared}{Q:VK}{k k':Bool}(I:Inv X pins σ H s)(q:Q (.bl k) H)(e:k=k'):EP X pins σ Q (.bool k') s:=by
 subst e
 exact⟨.bl k,H,I,rfl,q⟩
theorem cz:pL X (compareOp .Eq) Uo:=by
 intro pins s σ H x y v u Q I F z h
 obtain⟨D,q⟩:=h
 cases x with
 | non =>
  cases F
  cases y with
  | non=>cases z;exact PySem.EqNone.eq_none_none (bL I q (by simp))
  | bl j=>cases z;exact PySem.EqNone.eq_none_bool (bL I q (by simp))
  | int j=>obtain⟨t',rfl⟩:=z;exact PySem.EqNone.eq_none_int (bL I q (by simp))
  | str j=>obtain⟨t',rfl⟩:=z;exact PySem.EqNone.eq_none_str (bL I q (by simp))
  | _=>exact absurd (show false=true from D) ip
 | bl i =>
  cases F
  cases y with
  | non=>cases z;exact PySem.EqNone.eq_bool_none (bL I q (by simp))
  | bl j=>cases z;exact eq_bool (bL I q Ml)
  | str j=>obtain⟨t',rfl⟩:=z;exact PySem.EqMixed.eq_bool_str (bL I q (by simp))
  | _=>exact absurd (show false=true from D) ip
 | int i =>
  obtain⟨t,rfl⟩:=F
  cases y with
  | non=>cases z;exact PySem.EqNone.eq_int_none (bL I q (by simp))
  | int j=>obtain⟨t',rfl⟩:=z;exact eq_int (bL I q Em)
  | str j=>obtain⟨t',rfl⟩:=z;exact PySem.EqMixed.eq_int_str (bL I q (by simp))
  | _=>exact absurd (show false=true from D) ip
 | str i =>
  obtain⟨t,rfl⟩:=F
  cases y with
  | non=>cases z;exact PySem.EqNone.eq_str_none (bL I q (by simp))
  | bl j=>cases z;exact PySem.EqMixed.eq_str_bool (bL I q (by simp))
  | int j=>obtain⟨t',rfl⟩:=z;exact PySem.EqMixed.eq_str_int (bL I q (by simp))
  | str j=>obtain⟨t',rfl⟩:=z;exact eq_str (bL I q El)
  | _=>exact absurd (show false=true from D) ip
 | byt i =>
  obtain⟨t,rfl⟩:=F
  cases y with
  | byt j=>obtain⟨t',rfl⟩:=z;exact PySem.W.eq_bytes (bL I q En)
  | _=>exact absurd (show false=true from D) ip
 | _=>cases y<;>exact absurd (show false=true from D) ip
theorem vH:pL X (compareOp .NotEq) Ul:=by
 intro pins s σ H x y v u Q I F z h
 obtain⟨D,q⟩:=h
 cases x with
 | non =>
  cases F
  cases y with
  | non=>cases z;exact PySem.EqNone.ne_none_none (bL I q (by simp))
  | bl j=>cases z;exact PySem.EqNone.ne_none_bool (bL I q (by simp))
  | int j=>obtain⟨t',rfl⟩:=z;exact PySem.EqNone.ne_none_int (bL I q (by simp))
  | str j=>obtain⟨t',rfl⟩:=z;exact PySem.EqNone.ne_none_str (bL I q (by simp))
  | _=>exact absurd (show false=true from D) ip
 | bl i =>
  cases F
  cases y with
  | non=>cases z;exact PySem.EqNone.ne_bool_none (bL I q (by simp))
  | bl j=>cases z;exact ne_bool (bL I q (congrArg not Ml))
  | str j=>obtain⟨t',rfl⟩:=z;exact PySem.EqMixed.ne_bool_str (bL I q (by simp))
  | _=>exact absurd (show false=true from D) ip
 | int i =>
  obtain⟨t,rfl⟩:=F
  cases y with
  | non=>cases z;exact PySem.EqNone.ne_int_none (bL I q (by simp))
  | int j=>obtain⟨t',rfl⟩:=z;exact ne_int (bL I q (congrArg not Em))
  | str j=>obtain⟨t',rfl⟩:=z;exact PySem.EqMixed.ne_int_str (bL I q (by simp))
  | _=>exact absurd (show false=true from D) ip
 | str i =>
  obtain⟨t,rfl⟩:=F
  cases y with
  | non=>cases z;exact PySem.EqNone.ne_str_none (bL I q (by simp))
  | bl j=>cases z;exact PySem.EqMixed.ne_str_bool (bL I q (by simp))
  | int j=>obtain⟨t',rfl⟩:=z;exact PySem.EqMixed.ne_str_int (bL I q (by simp))
  | str j=>obtain⟨t',rfl⟩:=z;exact ne_str (bL I q (congrArg not El))
  | _=>exact absurd (show false=true from D) ip
 | byt i =>
  obtain⟨t,rfl⟩:=F
  cases y with
  | byt j=>obtain⟨t',rfl⟩:=z;exact PySem.W.ne_bytes (bL I q (congrArg not En))
  | _=>exact absurd (show false=true from D) ip
 | _=>cases y<;>exact absurd (show false=true from D) ip
theorem DQ:pL X (compareOp .Lt) (Ay fun i j=>.bl (decide (i<j))):=Oh fun _ _ _ _ _ _ _ q=>lt_int q
theorem nj:pL X (compareOp .LtE) (Ay fun i j=>.bl (decide (i≤j))):=Oh fun _ _ _ _ _ _ _ q=>le_int q
theorem qG:pL X (compareOp .Gt) (Ay fun i j=>.bl (decide (j<i))):=Oh fun _ _ _ _ _ _ _ q=>gt_int q
theorem qH:pL X (compareOp .GtE) (Ay fun i j=>.bl (decide (j≤i))):=Oh fun _ _ _ _ _ _ _ q=>ge_int q
theorem aL(b:Expr){op:CmpOp}(h:op≠.In:=by decide)(h2:op≠.NotIn:=by decide):behindInMarks op b=false:=by
 have e1:(op==CmpOp.In)=false:=by cases op<;>first | rfl | exact absurd rfl h
 have e2:(op==CmpOp.NotIn)=false:=by cases op<;>first | rfl | exact absurd rfl h2
 cases b<;>simp[behindInMarks,e1,e2]
theorem sU{op:CmpOp}{r:R2}(G:pL X (compareOp op) r)(F:PE X a ta)(L:PE X b tb)(D:behindInMarks op b=false):PE X (.Compare a [op] [b] pos) (Io r ta tb):=by
 intro pins s σ H Q I h
 exact wpAny_Compare1 (SM F L I h fun v u s2 x y H2 z j J q=>G pins s2 σ H2 x y v u Q z j J q) D
noncomputable def vA(t:TE):TT:=fun σ H Q=>t σ H fun x H'=>∃k,x=.bl k∧Q k H'
theorem aG{op:CmpOp}{r:R2}(Z:pL X (compareOp op) r)(U:PE X a ta)(hb:PE X b tb)(S:behindInMarks op b=false):PT X (.Compare a [op] [b] pos) (vA (Io r ta tb)):=by
 intro pins s σ H Q I h
 refine wpAny_isTrue_Compare1 (cG (U pins s σ H _ I h) fun v s1 ⟨x,H1,Y,r1,G⟩=>cG (hb pins s1 σ H1 _ Y G) fun u s2 ⟨y,H2,D,F,j⟩ =>
  cG (Z pins s2 σ H2 x y v u _ D r1 F j) fun c s3 ⟨z,J,I3,L,k,e,O⟩=>?_) S
 subst e
 cases L
 exact wpAny_truthy_bool ⟨J,I3,O⟩
noncomputable def z9(r F:R2)(ta tb tc:TE):TE:=fun σ H Q=>ta σ H fun x H1=>tb σ H1 fun y H2=>r x y H2 fun z j=>∃k,z=.bl k ∧
 (if k=true then tc σ j fun G D=>F y G D Q else Q (.bl false) j)
theorem uw{op j:CmpOp}{r O:R2}(ho:pL X (compareOp op) r)(D:pL X (compareOp j) O)(ha:PE X a ta)(hb:PE X b tb)(hc:PE X c tc)
  (hm:lastMarks [op,j] [b,c]=false:=by with_unfolding_all rfl):PE X (.Compare a [op,j] [b,c] pos) (z9 r O ta tb tc):=by
 intro pins s σ H Q I h
 refine Compare_chain (cG (ha pins s σ H _ I h) fun v s1 ⟨x,H1,I1,r1,Z⟩=>chain_link (cG (hb pins s1 σ H1 _ I1 Z) fun u s2 ⟨y,H2,Y,F,U⟩ =>
  cG (ho pins s2 σ H2 x y v u _ Y r1 F U) fun d s3 ⟨z,G,L,r3,k,e,J⟩=>?_)) hm
 subst e
 cases r3
 refine wpAny_truthy_bool ?_
 cases k with
 | false=>exact ite_ff ⟨.bl false,G,L,rfl,J⟩
 | true=>exact ite_tt (chain_last (cG (hc pins s3 σ G _ L J) fun w' s4 ⟨z',H4,I4,r4,S⟩=>D pins s4 σ H4 y z' u w' Q I4 F r4 S))
theorem Kc{op j:CmpOp}{r O:R2}(ho:pL X (compareOp op) r)(D:pL X (compareOp j) O)(ha:PE X a ta)(hb:PE X b tb)(hc:PE X c tc)
  (hm:lastMarks [op,j] [b,c]=false:=by with_unfolding_all rfl):PT X (.Compare a [op,j] [b,c] pos) (vA (z9 r O ta tb tc)):=by
 intro pins s σ H Q I h
 refine isTrue_chain (cG (ha pins s σ H _ I h) fun v s1 ⟨x,H1,I1,r1,q1⟩=>test_link (cG (hb pins s1 σ H1 _ I1 q1) fun u s2 ⟨y,H2,I2,F,Y⟩ =>
  cG (ho pins s2 σ H2 x y v u _ I2 r1 F Y) fun d s3 ⟨z,G,L,r3,k,e,J⟩=>?_)) hm
 subst e
 cases r3
 refine wpAny_truthy_bool ?_
 cases k with
 | false =>
  obtain⟨k',e',U⟩:=J
  cases e'
  exact ite_ff ⟨G,L,U⟩
 | true =>
  refine ite_tt (test_last (cG (hc pins s3 σ G _ L J) fun w' s4 ⟨z',H4,I4,r4,S⟩=>cG (D pins s4 σ H4 y z' u w' _ I4 F r4 S) fun d' s5 hz=>?_))
  obtain⟨z2,H5,I5,r5,k2,e2,Z⟩:=hz
  subst e2
  cases r5
  exact wpAny_truthy_bool ⟨H5,I5,Z⟩
noncomputable def U8(K:PySem.W.Frag)(x:V)(H:Hp)(k:Bool):Prop :=
 match x with
 | .non=>k=false
 | .bl b=>k=b
 | .int i=>k=(i != 0)
 | .str y=>y.length≤sizeLine∧k=((y.length:Int) != 0)
 | .byt y=>y.size≤sizeLine∧k=((y.size:Int) != 0)
 | .ref p=>(∃xs,bZ K H p xs∧k=!xs.isEmpty)∨(∃xs,cR K H p xs∧k=!xs.isEmpty)∨∃kvs,H p=some (.dK kvs)∧k=!kvs.isEmpty
 | _=>False
theorem Bv{κ:Type}{kvs:List (κ×V)}{vs:List (κ×Value)}(r:KV kvs vs):(!vs.isEmpty)=!kvs.isEmpty:=by
 cases r<;>rfl
theorem uG{xs:List V}{its:List Value}(r:Vals xs its):(!its.toArray.isEmpty)=!xs.isEmpty:=by
 cases r<;>simp
theorem qd:(sizeLine:Nat)<2 ^ 63:=by rw[sizeLine_eq];decide
theorem Q4:Wm X (fun x H Q=>∃k,U8 X.K x H k∧Q k H):=by
 intro pins s σ H x v Q I D h
 obtain⟨k,e,q⟩:=h
 have L:=qd
 have J:sizeLine=16777216:=sizeLine_eq
 cases x with
 | non =>
  cases D
  have j:k=false:=e
  subst j
  exact truthy_none ⟨H,I,q⟩
 | bl b =>
  cases D
  have j:k=b:=e
  subst j
  exact wpAny_truthy_bool ⟨H,I,q⟩
 | int i =>
  obtain⟨t,rfl⟩:=D
  have j:k=(i != 0):=e
  subst j
  exact PySem.P.truthy_int ⟨H,I,q⟩
 | str y =>
  obtain⟨t,rfl⟩:=D
  obtain⟨G,j⟩:y.length≤sizeLine∧k=((y.length:Int) != 0):=e
  subst j
  exact PySem.P.truthy_str (by omega) ⟨H,I.tok _,q⟩
 | byt y =>
  obtain⟨t,rfl⟩:=D
  obtain⟨G,j⟩:y.size≤sizeLine∧k=((y.size:Int) != 0):=e
  subst j
  exact PySem.W.truthy_bytes (by omega) ⟨H,I.tok _,q⟩
 | ref p =>
  cases D
  have j:(∃xs,bZ X.K H p xs∧k=!xs.isEmpty)∨(∃xs,cR X.K H p xs∧k=!xs.isEmpty)∨∃kvs,H p=some (.dK kvs)∧k=!kvs.isEmpty:=e
  rcases j with⟨xs,hx,j⟩ | ⟨xs,hx,j⟩ | ⟨kvs,hx,j⟩
  ·subst j
   obtain⟨its,r,pl,hz⟩:=I.list hx
   have z:=r.length
   exact wpAny_truthy_list pl.isList (by simp only[ib];omega) ⟨H,I.tok _,by rw[uG r];exact q⟩
  ·subst j
   obtain⟨its,r,pl,hz⟩:=I.tuple hx
   have z:=r.length
   exact truthy_tuple pl (by simp only[ib];omega) ⟨H,I.tok _,by rw[uG r];exact q⟩
  ·subst j
   obtain⟨hz,F,vs,r,m⟩:kvs.length≤sizeLine∧(p==sysModules)=false∧∃vs,KV kvs vs∧s.heap.DictOf (cJ X.prog X.w) p vs:=I.hok p _ hx
   have z:kvs.length=vs.length:=Paired.length r
   exact wpAny_truthy_dict F m (by omega) ⟨H,I.tok _,by rw[Bv r];exact q⟩
 | _=>exact(show False from e).elim
theorem gA(z:PE X a ta)(G:∀whole,isTrue a X.env whole=(do let v ←whole;standAt a.pos;holding [v] (truthy v))) :
  PT X a (fun σ H Q=>ta σ H fun x H'=>∃k,U8 X.K x H' k∧Q k H'):=by
 intro pins s σ H Q I h
 exact isTrue_plain (cG (z pins s σ H _ I h) fun v s1 ⟨x,H1,D,F,j⟩=>Q4 pins s1 σ H1 x v Q D F j) (G _)
theorem uA:pL X (binaryOp .Add) (fun x y H Q=>∃i j,x=.str i∧y=.str j∧i.length+j.length≤sizeLine∧Q (.str (i++j)) H):=by
 intro pins s σ H x y v u Q I z D h
 obtain⟨i,j,rfl,rfl,hz,q⟩:=h
 obtain⟨t,rfl⟩:=z
 obtain⟨t',rfl⟩:=D
 exact add_str (fun t' tk=>⟨.str (i++j),H,I.tok _,⟨_,rfl⟩,q⟩) hz
theorem vals1{x:V}{us:List Value}(r:Vals [x] us):∃u,us=[u]∧RelV x u:=by
 cases r with
 | cons j z=>cases z;exact⟨_,rfl,j⟩
theorem Ms:nu X (.builtin "abs") (fun xs H Q=>∃i,xs=[.int i]∧Q (.int (if i<0 then -i else i)) H):=by
 intro pins s σ H xs us Q I r h
 obtain⟨i,rfl,q⟩:=h
 obtain⟨u,rfl,t,rfl⟩:=vals1 r
 exact call_abs_int fun u tk=>⟨.int (if i<0 then -i else i),H,I.tok _,⟨_,rfl⟩,q⟩
theorem pA:nu X (.type "str") (fun xs H Q=>∃i,xs=[.int i]∧i.natAbs.log2<1920∧Q (.str (toString i)) H):=by
 intro pins s σ H xs us Q I r h
 obtain⟨i,rfl,hz,q⟩:=h
 obtain⟨u,rfl,t,rfl⟩:=vals1 r
 exact PySem.P.str_of_int hz ⟨.str _,H,I.tok _,⟨_,rfl⟩,q⟩
end
end L2
namespace L2
open PySem PySem.Spec PyProof.Rows
structure CK (h:Heap) (x dx C:Addr) (mA:Str→Option Value):Prop where
 obj:h.get? x=some (PySem.W.instObj C dx)
 ns:h.Ns1 dx mA
 ne:dx≠x
theorem vM{h:Heap}{dx:Addr}{mA:Str→Option Value}(n:h.Ns1 dx mA):∃od,h.get? dx=some od∧∀name,PySem.W.lookIn name od=some (mA name):=by
 obtain⟨o,es,ep,J,hd,D,_,F⟩:=n
 refine⟨o,J,fun name=>?_⟩
 have e:=F name
 unfold nsFind findBy at e
 rw[←Array.find?_toList]at e
 unfold PySem.W.lookIn
 rw[hd]
 dsimp only
 split
 ·rename_i y q
  rw[q]at e
  exact congrArg some e
 ·rename_i q
  rw[q]at e
  have a:es.toList.any (·.refKey)=false:=by
   rw[List.any_eq_false]
   intro y L
   obtain⟨z,t,j⟩:=D y (Array.mem_toList_iff.mp L)
   simp[DictEntry.refKey,j]
  have G:¬es.toList.any (·.refKey)=true:=by rw[a];exact ip
  rw[js G]
  exact congrArg some e
theorem CK.look{h:Heap}{x dx C:Addr}{mA:Str→Option Value}(I:CK h x dx C mA):∃od,PySem.W.InstAt h x (PySem.W.instObj C dx) C (some od)∧∀name,PySem.W.lookIn name od=some (mA name) :=
 let⟨od,ho,hl⟩:=vM I.ns
 ⟨od,⟨I.obj,rfl,rfl,ho⟩,hl⟩
section
variable {prog:Program} {w:World} {A:Around} {E:Value→Shared→Prop} {s:Shared} {K:PySem.W.Frag} {x dx C f:Addr} {mA:Str→Option Value} {name:Str} {v:Value}
theorem Qe{expr:Bool}{Q:Value→Shared→Prop}(X:K.In s.heap)(I:CK s.heap x dx C mA)(D:PySem.W.plainGet K C name=true)(z:PySem.W.hasDictIn K C=true)
  (F:PySem.W.findIn K (.ref C) name=some none) (L:mA name=some v) (j:PySem.W.handedIn v=true) (h:Q v { s with toks:=s.toks+1 }) :
  wpAny (model prog w) A (getAttr (.ref x) name expr) Q E s:=by
 obtain⟨od,J,G⟩:=I.look
 exact PySem.W.get_value X J (PySem.W.plainGet_of D).1 (PySem.W.findObj_own z F rfl (by rw[G,L])) j h
theorem LR{pl:Sem Bool}{Q:Value×List Value→Shared→Prop}(X:K.In s.heap)(I:CK s.heap x dx C mA)(j:PySem.W.plainGet K C name=true)
  (z:PySem.W.findIn K (.ref C) name=some (some (.ref f))) (F:PySem.W.isFn K (.ref f)=true) (G:mA name=none) (h:Q (.ref f,[.ref x]) s) :
  wpAny (model prog w) A (getMethod (.ref x) name pl) Q E s:=by
 obtain⟨od,J,D⟩:=I.look
 exact PySem.W.method_fn X J (PySem.W.plainGet_of j).1 (PySem.W.plainGet_of j).2 z (beq_iff_eq.mp F) (by show(PySem.W.lookIn name od).map (·.isSome)=some false;rw[D,G];rfl) h
theorem NB{ns:List Str}{Q:Unit→Shared→Prop}(X:K.In s.heap)(I:CK s.heap x dx C mA)
  (S:PySem.W.findIn K (.ref C) "__setattr__"=some (some (.builtin "object.__setattr__"))) (hp:PySem.W.plainOver K C=true) (ht:PySem.W.takerIn K C name=some none) (Z:PySem.W.hasDictIn K C=true)
  (hw:PySem.Within mA ns) (hsz:ns.length≤sizeLine)
  (h:∀h',CK h' x dx C (fun y=>if y=name then some v else mA y)→Heap.SameBut dx s.heap h'→Q () { s with heap:=h',toks:=s.toks+2 }) :
  wpAny (model prog w) A (setAttr (.ref x) name v) Q E s:=by
 obtain⟨od,J,hl⟩:=I.look
 refine PySem.W.set_plain X J S (PySem.W.osa_open (s:={ s with toks:=s.toks+1 }) (r:=none) X J hp ht fun b=>?_)
 obtain⟨cd,Y,L⟩:=PySem.W.any_some Z
 have hx:s.heap.get? x=some ⟨.ref C,some dx,.plain,#[]⟩:=I.obj
 refine wpAny_bind (wpAny_pure (wpAny_bind (wpAny_bind (wpAny_loadPart hx (wpAny_bind (PySem.W.Looks.here (s:={ s with toks:=s.toks+1 }) (PySem.W.looks_clsIn X Y) ?_))))))
 rw[L]
 refine wpAny_pure (a:=some dx) (wpAny_bind (wpAny_pure (wpAny_bind ?_)))
 refine wpAny_nsSet1 (s:={ s with toks:=s.toks+1 }) I.ns fun h' z j=>?_
 obtain⟨oD,O,U,F,D,G⟩:=z.count (PySem.Within.cons name v hw)
 refine wpAny_bind (wpAny_lookBehind F (by rw[D];exact pastItsLine_dict (iq G (by rw[cr];omega))) ?_)
 exact wpAny_pure (h _ ⟨(j.2 _ (Ne.symm I.ne)).trans I.obj,z,I.ne⟩ j)
theorem Li{R:Result→Shared→Prop}{vs:List Value}{j:List (Str×Value)}(X:K.In s.heap)(z:PySem.W.makesIn K C=true)
    (hi:PySem.W.findIn K (.ref C) "__init__"=some (some (.ref f))) (D:PySem.W.typeIn K (.ref f)=some (.type "function"))
    (h:codeAny (model prog w) (A.under (.builtin "type.__call__" ⟨.ref C::vs,j⟩)) (.call (.ref f) ⟨.ref (s.heap.objs.size+1)::vs,j⟩) (PySem.W.InitBack (s.heap.objs.size+1) R)
      { s with heap:=(s.heap.push PySem.W.emptyDict).push (PySem.W.instObj C s.heap.objs.size) }) :
    codeAny (model prog w) A (.call (.ref C) ⟨vs,j⟩) R s:=by
  obtain⟨F,g,d,t,os⟩:=s
  exact PySem.W.make_core (PySem.W.makes_of X z) (PySem.W.looks_findIn X hi) (fun self=>PySem.W.bind_fn X self D) (.inl rfl) h
end
noncomputable def gb(f:Str)(v:V):List (Str×V)→List (Str×V)
 | []=>[(f,v)]
 | (g,x)::r=>if g=f then(g,v)::r else(g,x)::gb f v r
theorem qM(f g:Str)(v:V):∀fs:List (Str×V),(gb f v fs).lookup g=if g=f then some v else fs.lookup g
 | []=>by
  show List.lookup g [(f,v)]=_
  by_cases h:g=f
  ·have j:(g==f)=true:=beq_iff_eq.mpr h
   simp only[List.lookup,j,j4 h]
  ·have j:(g==f)=false:=beq_eq_false_iff_ne.mpr h
   simp only[List.lookup,j,js h]
 | (k,x)::r=>by
  have D:=qM f g v r
  rw[show gb f v ((k,x)::r)=(if k=f then(k,v)::r else(k,x)::gb f v r)from rfl]
  by_cases z:k=f
  ·rw[j4 z]
   by_cases h:g=k
   ·have j:(g==k)=true:=beq_iff_eq.mpr h
    simp only[List.lookup,j,j4 (h.trans z)]
   ·have j:(g==k)=false:=beq_eq_false_iff_ne.mpr h
    simp only[List.lookup,j,js (fun e:g=f=>h (e.trans z.symm))]
  ·rw[js z]
   by_cases h:g=k
   ·have j:(g==k)=true:=beq_iff_eq.mpr h
    simp only[List.lookup,j,js (fun e:g=f=>z (h.symm.trans e))]
   ·have j:(g==k)=false:=beq_eq_false_iff_ne.mpr h
    simp only[List.lookup,j]
    exact D
theorem qg(f:Str)(v:V):∀fs:List (Str×V),f∈(gb f v fs).map (·.1)∧∀g,g∈fs.map (·.1)→g∈(gb f v fs).map (·.1)
 | []=>⟨by simp[gb],fun g h=>by simp at h⟩
 | (k,x)::r=>by
  obtain⟨i1,z⟩:=qg f v r
  rw[show gb f v ((k,x)::r)=(if k=f then(k,v)::r else(k,x)::gb f v r)from rfl]
  by_cases j:k=f
  ·rw[j4 j]
   subst j
   exact⟨by simp,fun g h=>by simpa using h⟩
  ·rw[js j]
   refine⟨?_,fun g h=>?_⟩
   ·rw[i6]
    exact am _ i1
   ·rw[i6]at h ⊢
    rcases hU.mp h with e | e
    ·exact hU.mpr (.inl e)
    ·exact am _ (z g e)
theorem qN(f:Str)(v:V):∀fs:List (Str×V),(gb f v fs).length≤fs.length+1
 | []=>by simp[gb]
 | (k,x)::r=>by
  have z:=qN f v r
  rw[show gb f v ((k,x)::r)=(if k=f then(k,v)::r else(k,x)::gb f v r)from rfl]
  by_cases j:k=f
  ·rw[j4 j,cr,cr];omega
  ·rw[js j,cr,cr];omega
theorem n_.some_of{v:V}{o:Option Value}(r:n_ (some v) o):∃u,o=some u∧RelV v u:=by
 cases o with
 | none=>exact(show False from r).elim
 | some u=>exact⟨u,rfl,r⟩
theorem n_.none_of{o:Option Value}(r:n_ none o):o=none:=by
 cases o with
 | none=>rfl
 | some u=>exact(show False from r).elim
theorem Ha{v:V}{u:Value}(r:RelV v u):PySem.W.handedIn u=true:=by
 cases v with
 | non=>cases(show u=Value.none from r);rfl
 | bl b=>cases(show u=Value.bool b from r);rfl
 | int i=>obtain⟨t,e⟩:=(show ∃t,u=Value.int i t from r);cases e;rfl
 | str x=>obtain⟨t,e⟩:=(show ∃t,u=Value.str x t from r);cases e;rfl
 | byt b=>obtain⟨t,e⟩:=(show ∃t,u=Value.bytes b t from r);cases e;rfl
 | flt b=>obtain⟨t,e⟩:=(show ∃t,u=Value.float b t from r);cases e;rfl
 | ref a=>cases(show u=Value.ref a from r);rfl
 | ty n=>cases(show u=Value.type n from r);rfl
section
variable {P:Program} {w:World} {H H':Hp} {h h':Heap} {a C dx:Addr} {fs fs':List (Str×V)}
theorem xF(hok:mY P w H h)(e:H a=some (.ins C dx fs)):∃mA,CK h a dx C mA∧(∀f,n_ (fs.lookup f) (mA f))∧PySem.Within mA (fs.map (·.1))∧fs.length≤1000∧H dx=some (.own a):=by
 obtain⟨d,z,ne,j,mA,n,r,q⟩:=(show cV P w H h a (.ins C dx fs)from hok a _ e)
 exact⟨mA,⟨j,n,ne⟩,r,q,z,d⟩
end
structure CW (K:PySem.W.Frag) (C:Addr):Prop where
 pg:PySem.W.plainGet K C Str.empty=true
 hd:PySem.W.hasDictIn K C=true
 po:PySem.W.plainOver K C=true
 sa:PySem.W.findIn K (.ref C) "__setattr__"=some (some (.builtin "object.__setattr__"))
theorem CW.get{K:PySem.W.Frag}{C:Addr}(c:CW K C)(f:Str):PySem.W.plainGet K C f=true:=c.pg
noncomputable def aO(K:PySem.W.Frag)(C:Addr)(f:Str):Prop:=PySem.W.findIn K (.ref C) f=some none
theorem aO.taker{K:PySem.W.Frag}{C:Addr}{f:Str}(n:aO K C f):PySem.W.takerIn K C f=some none:=by
 unfold PySem.W.takerIn
 rw[show PySem.W.findIn K (.ref C) f=some none from n]
 rfl
structure Meth (K:PySem.W.Frag) (C:Addr) (m:Str) (f:Addr):Prop where
 at_:PySem.W.findIn K (.ref C) m=some (some (.ref f))
 fn:PySem.W.isFn K (.ref f)=true
 kp:PySem.W.keepIn K (.ref f)=true
section
variable {X:Cx} {pins:List (Addr×Obj)} {σ:St} {H:Hp} {s:Shared} {a C dx:Addr} {fs:List (Str×V)} {f:Str} {v:V} {A:Around} {E:Value→Shared→Prop}
theorem uJ{b:Bool}{Q:Value→Shared→Prop}(I:Inv X pins σ H s)(e:H a=some (.ins C dx fs))(c:CW X.K C)(n:aO X.K C f)(l:fs.lookup f=some v)
  (h:∀u s',Inv X pins σ H s'→RelV v u→Q u s'):wpAny (model X.prog X.w) A (getAttr (.ref a) f b) Q E s:=by
 obtain⟨mA,O,r,_,_,_⟩:=xF I.hok e
 obtain⟨u,z,j⟩:=n_.some_of (v:=v) (o:=mA f) (by rw[←l];exact r f)
 exact Qe I.oZ O (c.get f) c.hd n z (Ha j) (h u _ (I.tok _) j)
theorem uI{m:Str}{g:Addr}{pl:Sem Bool}{Q:Value×List Value→Shared→Prop}(I:Inv X pins σ H s)(e:H a=some (.ins C dx fs))(c:CW X.K C)(k:Meth X.K C m g)(l:fs.lookup m=none)
  (h:Q (.ref g,[.ref a]) s):wpAny (model X.prog X.w) A (getMethod (.ref a) m pl) Q E s:=by
 obtain⟨mA,O,r,_,_,_⟩:=xF I.hok e
 have j:mA m=none:=n_.none_of (by rw[←l];exact r m)
 exact LR I.oZ O (c.get m) k.at_ k.fn j h
theorem ud{y:V}{u:Value}{Q:Unit→Shared→Prop}(I:Inv X pins σ H s)(e:H a=some (.ins C dx fs))(c:CW X.K C)(n:aO X.K C f)(U:fs.length<1000)(J:RelV y u)
  (h:∀s',Inv X pins σ (upd H a (.ins C dx (gb f y fs))) s'→Q () s'):wpAny (model X.prog X.w) A (setAttr (.ref a) f u) Q E s:=by
 obtain⟨mA,O,r,F,_,D⟩:=xF I.hok e
 have hz:(fs.map (·.1)).length≤sizeLine:=by rw[ap,sizeLine_eq];omega
 refine NB I.oZ O c.sa c.po n.taker c.hd F hz fun h' j G=>h _ ?_
 have hd:∃o,h'.get? dx=some o:=let⟨o,_,_,e',_⟩:=j.ns;⟨o,e'⟩
 refine I.write (x:=a) (e:=dx) (by rw[e];exact True.intro) (.inr D) (fun b q S z=>(G.2 b S).trans z) hd ?_
 refine⟨by rw[az O.ne];exact D,?_,O.ne,j.obj,_,j.ns,fun g=>?_,fun g L=>?_⟩
 ·have:=qN f y fs;omega
 ·show n_ ((gb f y fs).lookup g) (if g=f then some u else mA g)
  rw[qM]
  by_cases q:g=f
  ·rw[j4 q,j4 q];exact J
  ·rw[js q,js q];exact r g
 ·by_cases q:g=f
  ·rw[q];exact(qg f y fs).1
  ·refine(qg f y fs).2 g (F g fun z=>L ?_)
   show(if g=f then some u else mA g)=none
   rw[js q];exact z
theorem Inv.made(I:Inv X pins σ H s):Inv X pins σ (upd (upd H s.heap.objs.size (.own (s.heap.objs.size+1))) (s.heap.objs.size+1) (.ins C s.heap.objs.size []))
    { s with heap:=(s.heap.push PySem.W.emptyDict).push (PySem.W.instObj C s.heap.objs.size) }:=by
  have e1:(s.heap.push PySem.W.emptyDict).get? s.heap.objs.size=some PySem.W.emptyDict:=Heap.get?_push_size s.heap rfl
  have e2:((s.heap.push PySem.W.emptyDict).push (PySem.W.instObj C s.heap.objs.size)).get? (s.heap.objs.size+1)=some (PySem.W.instObj C s.heap.objs.size):=by
    have:=Heap.get?_push_size (s.heap.push PySem.W.emptyDict) (o:=PySem.W.instObj C s.heap.objs.size) rfl
    rwa[Heap.size_push]at this
  have e3:(s.heap.push PySem.W.emptyDict).Ns s.heap.objs.size (fun _=>none):=⟨PySem.W.emptyDict,#[],_,e1,rfl,(fun e D=>absurd D (by simp)),fun _=>rfl⟩
  have j:=I.laid (a:=s.heap.objs.size) (o:=.own (s.heap.objs.size+1)) (h':=s.heap.push PySem.W.emptyDict) (t':=s.toks) (fun b u q=>Heap.get?_push_of_some _ q) (f' _) ⟨_,e1⟩
  refine j.laid (a:=s.heap.objs.size+1) (o:=.ins C s.heap.objs.size []) (t':=s.toks) (fun b u q=>Heap.get?_push_of_some _ q) (Nat.le_of_eq (Heap.size_push _ _)) ?_
  have ne:s.heap.objs.size≠s.heap.objs.size+1:=i4 (Nat.lt_succ_self _)
  refine⟨by rw[az ne,ak],Nat.zero_le _,ne,e2,fun _=>none,(Heap.Ns1.of_empty e3).at fun o q=>Heap.get?_push_of_some _ q,fun _=>True.intro,fun y z=>absurd rfl z⟩
theorem Ey{prog:Program}{w:World}{env:Env}{e:Expr}{f:Str}{pos:Pos}{s:Shared}{Q:Value→Shared→Prop}(j:attributeBase e f env (eval e env)=eval e env)
  (h:wpAny (model prog w) A (eval e env) (fun o s₁=>wpAny (model prog w) A (getAttr o f true) Q E s₁) E s):wpAny (model prog w) A (eval (.Attribute e f pos) env) Q E s :=
 Attribute_any_ h (by rw[arm_eval_Attribute,j])
end
noncomputable def z8(K:PySem.W.Frag)(ta:TE)(f:Str):TE:=fun σ H Q=>ta σ H fun x H1=>∃a C dx fs v,x=.ref a∧H1 a=some (.ins C dx fs)∧CW K C∧aO K C f∧fs.lookup f=some v∧Q v H1
noncomputable def VB(K:PySem.W.Frag)(ta tv:TE)(f:Str):TS:=fun D σ H=>tv σ H fun y H1=>ta σ H1 fun x H2=>∃a C dx fs,x=.ref a∧H2 a=some (.ins C dx fs)∧CW K C∧aO K C f∧fs.length<1000 ∧
 D.nx σ (upd H2 a (.ins C dx (gb f y fs)))
noncomputable def Tc(X:Cx)(op:Operator)(rd:V→V→Hp→VK→Prop):Prop :=
 ∀(pins:List (Addr×Obj))(s:Shared)(σ:St)(H:Hp)(x y:V)(u v:Value)(Q:VK),Inv X pins σ H s→RelV x u→RelV y v→rd x y H Q→wpAny (model X.prog X.w) X.A (inplaceOp op u v) (EP X pins σ Q) X.xe s
noncomputable def N5(K:PySem.W.Frag)(ta tv:TE)(rd:V→V→Hp→VK→Prop)(f:Str):TS:=fun D σ H=>ta σ H fun x H1=>∃a C dx fs v,x=.ref a∧H1 a=some (.ins C dx fs)∧CW K C∧aO K C f∧fs.lookup f=some v ∧
 tv σ H1 fun y H2=>rd v y H2 fun z F=>∃j fs',F a=some (.ins C j fs')∧fs'.length<1000∧D.nx σ (upd F a (.ins C j (gb f z fs')))
section
variable {X:Cx} {o e value:Expr} {f:Str} {pos pos' tpos:Pos} {ta tv:TE}
theorem aJ(L:PE X e ta)(J:attributeBase e f X.env (eval e X.env)=eval e X.env):PE X (.Attribute e f pos) (z8 X.K ta f):=by
 intro pins s σ H Q I h
 refine Ey J (cG (L pins s σ H _ I h) fun u s1 hz=>?_)
 obtain⟨x,H1,G,z,a,C,dx,fs,v,ex,j,c,n,l,q⟩:=hz
 subst ex
 obtain rfl:u=Value.ref a:=z
 exact uJ G j c n l fun O s2 D F=>⟨v,H1,D,F,q⟩
theorem b8(O:PE X o ta)(J:PE X value tv)(L:swapsWith value (some (.Attribute o f pos')) pos.line X.env=pure false):PS X (.Assign [.Attribute o f pos'] value pos) (VB X.K ta tv f):=by
 intro pins s σ H D I h
 refine plainObj_wpAny_Assign_Attribute (cG (J pins s σ H _ I h) fun u s1 ⟨y,H1,S,Y,q⟩=>cG (O pins s1 σ H1 _ S q) fun U s2 hz=>?_) L
 obtain⟨x,H2,G,F,a,C,dx,fs,ex,j,c,n,l,z⟩:=hz
 subst ex
 obtain rfl:U=Value.ref a:=F
 exact ud G j c n l Y fun s3 Z=>⟨σ,_,Z,z⟩
theorem cH{op:Operator}{rd:V→V→Hp→VK→Prop}(ha:PE X o ta)(Z:PE X value tv)(F:Tc X op rd):PS X (.AugAssign (.Attribute o f tpos) op value pos) (N5 X.K ta tv rd f):=by
 intro pins s σ H D I h
 refine wpAny_AugAssign_AttributeAny (cG (ha pins s σ H _ I h) fun ov s1 hz=>?_)
 obtain⟨x,H1,I1,O,a,C,dx,fs,v,ex,L,c,n,l,q⟩:=hz
 subst ex
 obtain rfl:ov=Value.ref a:=O
 refine uJ I1 L c n l fun u s2 S U=>cG (Z pins s2 σ H1 _ S q) fun w3 s3 ⟨y,H2,I3,ry,Y⟩=>cG (F pins s3 σ H2 v y u w3 _ I3 U ry Y) fun w4 s4 hz=>?_
 obtain⟨z,H3,I4,rz,aa,fs',j,J,G⟩:=hz
 exact ud I4 j c n J rz fun s5 I5=>⟨σ,_,I5,G⟩
noncomputable def VN:V→V→Hp→VK→Prop:=fun x y H Q=>∃i j,x=.int i∧y=.int j∧Q (.int (i+j)) H
noncomputable def VF:V→V→Hp→VK→Prop:=fun x y H Q=>∃i j,x=.int i∧y=.int j∧Q (.int (i-j)) H
theorem gD:Tc X .Add VN:=by
 rintro pins s σ H x y u v Q I D z ⟨i,j,rfl,rfl,q⟩
 obtain⟨t,rfl⟩:=(show ∃t,u=Value.int i t from D)
 obtain⟨t',rfl⟩:=(show ∃t',v=Value.int j t' from z)
 exact PyProof.Rows.iadd_int ⟨.int (i+j),H,I.tok _,⟨_,rfl⟩,q⟩
theorem Su:Tc X .Sub VF:=by
 rintro pins s σ H x y u v Q I D z ⟨i,j,rfl,rfl,q⟩
 obtain⟨t,rfl⟩:=(show ∃t,u=Value.int i t from D)
 obtain⟨t',rfl⟩:=(show ∃t',v=Value.int j t' from z)
 exact PyProof.Rows.isub_int ⟨.int (i-j),H,I.tok _,⟨_,rfl⟩,q⟩
end
section
variable {X:Cx} {pins:List (Addr×Obj)} {σ:St} {H:Hp} {s:Shared} {A:Around} {E:Value→Shared→Prop} {Q:Value→Shared→Prop} {c:Value} {b:Bool}
end
end L2
namespace L2
open PySem PySem.Spec PyProof.Rows
structure bH (k:Nat) (A:Around):Prop where
 hd:A.handled=none
 dp:A.depth+3*k+5<recursionLimit
 un:A.units+16*k+200<cLine
theorem bH.mono{j k:Nat}{A:Around}(r:bH k A)(h:j≤k):bH j A:=⟨r.hd,by have:=r.dp;omega,by have:=r.un;omega⟩
theorem bH.deeper{k:Nat}{A:Around}(r:bH (k+1) A)(env:Env):bH k (A.deeper env) :=
 ⟨r.hd,by have:=r.dp;show A.depth+1+3*k+5<_;omega,by have:=r.un;show A.units+3+16*k+200<_;omega⟩
theorem Bq{A:Around}{C:Addr}{us:List Value}{j:List (Str×Value)}:(A.under (.builtin "type.__call__" ⟨.ref C::us,j⟩)).depth=A.depth+1:=by
 first | rfl | simp[Around.under,Code.weight,Code.isCreation,Code.isGuard,Code.isCaller,Code.frames,Code.isFrame,guardIds]
theorem Bp{A:Around}{C:Addr}{us:List Value}{j:List (Str×Value)}:(A.under (.builtin "type.__call__" ⟨.ref C::us,j⟩)).units=A.units+1:=by
 first | rfl | simp[Around.under,Code.cUnits,Code.frames,Code.isFrame]
theorem bH.make{k:Nat}{A:Around}(r:bH (k+1) A)(C:Addr)(us:List Value)(j:List (Str×Value)):bH k (A.under (.builtin "type.__call__" ⟨.ref C::us,j⟩)) :=
 ⟨r.hd,by have:=r.dp;rw[Bq];omega,by have:=r.un;rw[Bp];omega⟩
theorem bH.depth{k:Nat}{A:Around}(r:bH k A):A.depth<recursionLimit:=by have:=r.dp;omega
theorem bH.units{k:Nat}{A:Around}(r:bH k A):A.units+64<cLine:=by have:=r.un;omega
noncomputable def cZ:TA:=fun _ H Q=>Q [] H
noncomputable def aZ(ta:TE)(j:TA):TA:=fun σ H Q=>ta σ H fun x H1=>j σ H1 fun xs H2=>Q (x::xs) H2
section
variable {X:Cx} {e:Expr} {es:List Expr} {te:TE} {t:TA} {pos:Pos}
theorem au:PA X [] cZ:=fun _ _ _ _ H Q I h=>Calls.spliced_nil ⟨[],H,I,.nil,h⟩
theorem aj(L:PE X e te)(G:PA X es t)(J:starEach (e::es) X.env=(false,eval e X.env)::starEach es X.env:=by rfl):PA X (e::es) (aZ te t):=by
 intro pos pins s σ H Q I h
 rw[J]
 show wpAny _ _ (spliced ((false,eval e X.env)::backTo pos (starEach es X.env))) _ _ s
 refine Calls.spliced_cons (cG (L pins s σ H _ I h) fun u s1 ⟨x,H1,O,S,F⟩=>?_)
 exact cG (G pos pins s1 σ H1 _ O F) fun us s2 ⟨xs,H2,z,D,j⟩=>⟨x::xs,H2,z,.cons S D,j⟩
noncomputable def Ij(t:TA):TE:=fun σ H Q=>t σ H fun xs H1=>xs.length≤sizeLine∧∀p,H1 p=none→Q (.ref p) (upd H1 p (.tup xs))
noncomputable def f9(t:TA):TE:=fun σ H Q=>t σ H fun xs H1=>xs.length≤sizeLine∧∀p,H1 p=none→Q (.ref p) (upd H1 p (.lst xs))
theorem bJ{x1}(h:PA X es t):PE X (.Tuple es x1 pos) (Ij t):=by
 intro pins s σ H Q I D
 refine wpAny_Tuple_spliced (cG (h pos pins s σ H _ I D) fun us s1 ⟨xs,H1,j,r,z,q⟩=>⟨by rw[←r.length];exact z,?_⟩)
 have F:H1 s1.heap.objs.size=none:=j.hok.fresh (f' _)
 refine⟨.ref s1.heap.objs.size,upd H1 s1.heap.objs.size (.tup xs),j.laid (t':=s1.toks) (fun b u e=>Heap.get?_push_of_some _ e) (f' _) ?_,rfl,q _ F⟩
 exact⟨z,us,r,⟨_,Heap.get?_push_size _ rfl,rfl,_,rfl⟩⟩
theorem bT(h:PA X es t):PE X (.List es pos) (f9 t):=by
 intro pins s σ H Q I D
 refine wpAny_List_spliced (cG (h pos pins s σ H _ I D) fun us s1 ⟨xs,H1,j,r,z,q⟩=>⟨by rw[←r.length];exact z,?_⟩)
 have F:H1 s1.heap.objs.size=none:=j.hok.fresh (f' _)
 refine⟨.ref s1.heap.objs.size,upd H1 s1.heap.objs.size (.lst xs),j.laid (t':=s1.toks) (fun b u e=>Heap.get?_push_of_some _ e) (f' _) ?_,rfl,q _ F⟩
 exact⟨z,us,0,r,Heap.get?_push_size _ rfl⟩
end
noncomputable abbrev Sp:=List V→Hp→VK→XK→Prop
noncomputable abbrev Ff:=List Env→Hp→Shared→XK→Value→Shared→Prop
structure CV (P:Program) (w:World) (K:PySem.W.Frag) (mg:Str→Option Value) (base:Heap) (A:Around) (outer:List Env) (s:Shared) (H:Hp):Prop where
 frames:A.frames=some outer
 mod:Mod K mg base
 bs:∀b o,base.get? b=some o→s.heap.get? b=some o∧H b=none
 bsz:base.objs.size≤s.heap.objs.size
 nQ:s.heap.FunFrames base outer
 frf:∀b∈frs outer,H b=none
 hok:mY P w H s.heap
 bare:AllBare s.gens
noncomputable def CE(outer:List Env)(P:Program)(w:World)(H:Hp)(s:Shared)(Q:VK)(u:Value)(s':Shared):Prop :=
 ∃v H',s'.os=s.os∧AllBare s'.gens∧Un (frs outer) [] H H' s.heap s'.heap∧mY P w H' s'.heap∧RelV v u∧Q v H'
noncomputable def CR(CX:Ff)(outer:List Env)(P:Program)(w:World)(H:Hp)(s:Shared)(Q:VK)(E:XK)(r:Result)(s':Shared):Prop :=
 match r with
 | .ok (.ret u)=>CE outer P w H s Q u s'
 | .ok _=>False
 | .error e=>CX outer H s E e s'
structure aF (P:Program) (w:World) (K:PySem.W.Frag) (mg:Str→Option Value) (base:Heap) (CX:Ff) (k:Nat) (f:Addr) (fd:FuncData) (ps:List Str) (sp:Sp):Prop where
 len:∀vs H Q E,sp vs H Q E→vs.length=ps.length
 run:∀(A:Around)(outer:List Env)(s:Shared)(H:Hp)(args:Args)(us:List Value)(vs:List V)(Q:VK)(E:XK),bH k A→CV P w K mg base A outer s H→BindsTo s fd args (ps.zip us)→Vals vs us→sp vs H Q E →
  codeAny (model P w) A (.call (.ref f) args) (CR CX outer P w H s Q E) s
theorem CV.make{P:Program}{w:World}{K:PySem.W.Frag}{mg:Str→Option Value}{base:Heap}{A:Around}{outer:List Env}{s:Shared}{H:Hp}(e:CV P w K mg base A outer s H)(C:Addr)(us:List Value)(j:List (Str×Value)) :
  CV P w K mg base (A.under (.builtin "type.__call__" ⟨.ref C::us,j⟩)) outer s H:=⟨by first | exact e.frames | (simpa[Around.under,Code.envs,Code.isFrame,pushEnvs]using e.frames),e.mod,e.bs,e.bsz,e.nQ,e.frf,e.hok,e.bare⟩
section
variable {X:Cx} {pins:List (Addr×Obj)} {σ:St} {H:Hp} {s s':Shared}
theorem Inv.env0(I:Inv X pins σ H s):CV X.prog X.w X.K X.mg X.base X.A X.stack s H :=
 ⟨I.ok.frames,I.ok.mod,I.bs,iq I.ok.bsz I.sz,I.stack,I.jc,I.hok,I.bare⟩
theorem Inv.after{Q:VK}{u:Value}(I:Inv X pins σ H s)(h:CE X.stack X.prog X.w H s Q u s'):EP X pins σ Q u s':=by
 obtain⟨v,H',os,bare,un,hok,r,q⟩:=h
 obtain⟨D,g,d,t,j⟩:=s'
 obtain rfl:j=s.os:=os
 exact⟨v,H',I.call (h':=D) (g':=g) (d':=d) (t':=t) (ch:=[]) un hok bare (fun b z=>absurd z (by simp)),r,q⟩
end
noncomputable def qC(sp:Sp)(dvs:List V)(E:XK)(t:TA):TE:=fun σ H Q=>t σ H fun vs H1=>sp (vs++dvs) H1 Q E
noncomputable def vB(C:Addr)(m:Str)(sp:Sp)(dvs:List V)(E:XK)(ta:TE)(t:TA):TE:=fun σ H Q=>ta σ H fun x H1=>∃a dx fs,x=.ref a∧H1 a=some (.ins C dx fs)∧fs.lookup m=none ∧
 t σ H1 fun vs H2=>sp (x::(vs++dvs)) H2 Q E
noncomputable def T4(C:Addr)(sp:Sp)(dvs:List V)(E:XK)(t:TA):TE:=fun σ H Q=>t σ H fun vs H1=>∀x dx,H1 x=none→H1 dx=none→dx≠x →
 sp (.ref x::(vs++dvs)) (upd (upd H1 dx (.own x)) x (.ins C dx [])) (fun v H2=>v=.non∧Q (.ref x) H2) E
noncomputable def Binds(K:PySem.W.Frag)(fd:FuncData)(ps:List Str)(ds:List Value):Prop :=
 ∀(s:Shared)(us:List Value),K.In s.heap→(us++ds).length=ps.length→BindsTo s fd ⟨us,[]⟩ (ps.zip (us++ds))
theorem Binds.all{K:PySem.W.Frag}{fd:FuncData}{ps:List Str}(h:∀us:List Value,us.length=ps.length→bindArgs fd ⟨us,[]⟩=pure (ps.zip us)):Binds K fd ps []:=fun s us _ j=>by
 rw[i8]at j ⊢
 exact .of_eq (h us j)
noncomputable def iC(CX:Ff)(X:Cx)(E:XK):Prop:=∀(pins:List (Addr×Obj))(σ:St)(H:Hp)(s:Shared)(e:Value)(s':Shared),Inv X pins σ H s→CX X.stack H s E e s'→X.xe e s'
section
variable {X:Cx} {CX:Ff} {k:Nat} {f C:Addr} {fd:FuncData} {ps:List Str} {sp:Sp} {dvs:List V} {ds:List Value} {E:XK} {x m:Str} {p pos apos:Pos} {e o:Expr} {es:List Expr} {ta:TE} {t:TA}
theorem wU{pins:List (Addr×Obj)}{σ:St}{H:Hp}{s:Shared}{Q:VK}{us:List Value}{vs:List V}(F:aF X.prog X.w X.K X.mg X.base CX k f fd ps sp)(D:bH k X.A)(J:Binds X.K fd ps ds)(hd:Vals dvs ds)(hx:iC CX X E)
  (I:Inv X pins σ H s) (r:Vals vs us) (h:sp (vs++dvs) H Q E):wpAny (model X.prog X.w) X.A (call (.ref f) us) (EP X pins σ Q) X.xe s:=by
 have z:Vals (vs++dvs) (us++ds):=r.append hd
 have G:(us++ds).length=ps.length:=by rw[←z.length];exact F.len _ _ _ _ h
 refine wpAny_call (codeAny_mono (F.run X.A X.stack s H ⟨us,[]⟩ (us++ds) (vs++dvs) Q E D I.env0 (J s us I.oZ G) z h) fun r s' j=>?_)
 cases r with
 | error e=>exact hx pins σ H s e s' I j
 | ok fl =>
  cases fl with
  | ret u=>exact I.after j
  | next=>exact False.elim j
  | brk=>exact False.elim j
  | cont=>exact False.elim j
theorem a_(F:aF X.prog X.w X.K X.mg X.base CX k f fd ps sp)(G:bH k X.A)(S:Gl X x)(L:X.mg x=some (.ref f))(J:PySem.W.keepIn X.K (.ref f)=true)(U:Binds X.K fd ps ds)(hd:Vals dvs ds)(hx:iC CX X E)
  (O:PA X (e::es) t) (z:(x==("__debug__" : Str))=false:=by decide) (Y:starEach (e::es) X.env=(false,eval e X.env)::starEach es X.env:=by rfl) (j:(backTo pos (starEach es X.env)).any (·.1)=false:=by rfl) :
  PE X (.Call (.Name x p) (e::es) [] pos) (qC sp dvs E t):=by
 intro pins s σ H Q I h
 refine wpAny_Call_Name_kw (lU I S L ?_ z)
 refine PySem.W.callWith_K (h₀:=X.base) I.ok.mod.kin J (cG (O pos pins s σ H _ I h) fun us s1 ⟨vs,H1,D,r,q⟩=>⟨D.oZ,?_⟩) Y j
 exact wU F G U hd hx D r q
theorem bc{pl:Sem Bool}(he:PE X o ta)(c:CW X.K C)(G:Meth X.K C m f)(F:aF X.prog X.w X.K X.mg X.base CX k f fd ps sp)(Y:bH k X.A)(hb:Binds X.K fd ps ds)(hd:Vals dvs ds)(hx:iC CX X E)(Z:PA X (e::es) t)
  (z:starEach (e::es) X.env=(false,eval e X.env)::starEach es X.env:=by rfl) (j:(backTo pos (starEach es X.env)).any (·.1)=false:=by rfl)
  (ht:eval (.Call (.Attribute o m apos) (e::es) [] pos) X.env=(do
   let L ←eval o X.env
   standAt apos.atName
   let(f,first) ←holding [L] (getMethod L m pl)
   callWith pos f first (backTo pos (starEach (e::es) X.env)) (backToKw pos (keywordEach [] X.env))):=by rfl) :
  PE X (.Call (.Attribute o m apos) (e::es) [] pos) (vB C m sp dvs E ta t):=by
 intro pins s σ H Q I h
 refine PySem.W.methodCall_KW (pl:=pl) (cG (he pins s σ H _ I h) fun u s1 hz=>?_) ht
 obtain⟨x,H1,J,U,a,dx,fs,ex,O,l,q⟩:=hz
 subst ex
 obtain rfl:u=Value.ref a:=U
 refine uI J O c G l ?_
 refine PySem.W.callWith_K (first:=[.ref a]) (h₀:=X.base) I.ok.mod.kin G.kp (cG (Z pos pins s1 σ H1 _ J q) fun us s2 ⟨vs,H2,D,r,S⟩=>⟨D.oZ,?_⟩) z j
 exact wU (us:=.ref a::us) (vs:=.ref a::vs) F Y hb hd hx D (.cons rfl r) S
theorem bQ{pl:Sem Bool}(U:PE X o ta)(c:CW X.K C)(z:Meth X.K C m f)(F:aF X.prog X.w X.K X.mg X.base CX k f fd ps sp)(L:bH k X.A)(O:Binds X.K fd ps ds)(hd:Vals dvs ds)(hx:iC CX X E)
  (S:eval (.Call (.Attribute o m apos) [] [] pos) X.env=(do
   let D ←eval o X.env
   standAt apos.atName
   let(f,first) ←holding [D] (getMethod D m pl)
   callWith pos f first (backTo pos (starEach [] X.env)) (backToKw pos (keywordEach [] X.env))):=by rfl) :
  PE X (.Call (.Attribute o m apos) [] [] pos) (vB C m sp dvs E ta cZ):=by
 intro pins s σ H Q I h
 refine PySem.W.methodCall_KW (pl:=pl) (cG (U pins s σ H _ I h) fun u s1 hz=>?_) S
 obtain⟨x,H1,j,J,a,dx,fs,ex,G,l,q⟩:=hz
 subst ex
 obtain rfl:u=Value.ref a:=J
 refine uI j G c z l ?_
 exact PySem.W.callWith_K0 (first:=[.ref a]) j.oZ z.kp (wU (us:=[.ref a]) (vs:=[.ref a]) F L O hd hx j (.cons rfl .nil) q)
structure Mk (K:PySem.W.Frag) (C f:Addr):Prop where
 makes:PySem.W.makesIn K C=true
 init:PySem.W.findIn K (.ref C) "__init__"=some (some (.ref f))
 fn:PySem.W.isFn K (.ref f)=true
 kp:PySem.W.keepIn K (.ref C)=true
theorem JX{pins:List (Addr×Obj)}{σ:St}{H:Hp}{s:Shared}{Q:VK}{us:List Value}{vs:List V}(M:Mk X.K C f)(F:aF X.prog X.w X.K X.mg X.base CX k f fd ps sp)(L:bH (k+1) X.A)(U:Binds X.K fd ps ds)(hd:Vals dvs ds)
  (hx:iC CX X E) (I:Inv X pins σ H s) (r:Vals vs us)
  (h:∀x dx,H x=none→H dx=none→dx≠x→sp (.ref x::(vs++dvs)) (upd (upd H dx (.own x)) x (.ins C dx [])) (fun v H2=>v=.non∧Q (.ref x) H2) E) :
  wpAny (model X.prog X.w) X.A (call (.ref C) us) (EP X pins σ Q) X.xe s:=by
 have G:=h (s.heap.objs.size+1) s.heap.objs.size (I.hok.fresh (Nat.le_succ _)) (I.hok.fresh (f' _)) (i4 (Nat.lt_succ_self _))
 have z:=Inv.made (C:=C) I
 have D:Vals (V.ref (s.heap.objs.size+1)::(vs++dvs)) (Value.ref (s.heap.objs.size+1)::(us++ds)):=.cons rfl (r.append hd)
 have O:(Value.ref (s.heap.objs.size+1)::us++ds).length=ps.length:=by
  have e:=D.length
  rw[F.len _ _ _ _ G]at e
  exact e.symm
 refine wpAny_call (Li (f:=f) I.oZ M.makes M.init (beq_iff_eq.mp M.fn) (codeAny_mono (F.run _ X.stack _ _ ⟨Value.ref (s.heap.objs.size+1)::us,[]⟩ (Value.ref (s.heap.objs.size+1)::(us++ds)) _ _ E (L.make C us [])
  (z.env0.make C us []) (U _ (Value.ref (s.heap.objs.size+1)::us) z.oZ O) D G) fun r s' j=>?_))
 cases r with
 | error e=>exact hx pins σ _ _ e s' z j
 | ok fl =>
  cases fl with
  | ret u =>
   obtain⟨v,H',S,Y,ev,J⟩:=z.after j
   subst ev
   exact⟨Y,⟨V.ref (s.heap.objs.size+1),H',S,rfl,J⟩⟩
  | next=>exact False.elim j
  | brk=>exact False.elim j
  | cont=>exact False.elim j
theorem sS(M:Mk X.K C f)(F:aF X.prog X.w X.K X.mg X.base CX k f fd ps sp)(G:bH (k+1) X.A)(O:Gl X x)(J:X.mg x=some (.ref C))(S:Binds X.K fd ps ds)(hd:Vals dvs ds)(hx:iC CX X E)
  (L:PA X (e::es) t) (z:(x==("__debug__" : Str))=false:=by decide) (U:starEach (e::es) X.env=(false,eval e X.env)::starEach es X.env:=by rfl) (j:(backTo pos (starEach es X.env)).any (·.1)=false:=by rfl) :
  PE X (.Call (.Name x p) (e::es) [] pos) (T4 C sp dvs E t):=by
 intro pins s σ H Q I h
 refine wpAny_Call_Name_kw (lU I O J ?_ z)
 refine PySem.W.callWith_K (h₀:=X.base) I.ok.mod.kin M.kp (cG (L pos pins s σ H _ I h) fun us s1 ⟨vs,H1,D,r,q⟩=>⟨D.oZ,?_⟩) U j
 exact JX M F G S hd hx D r q
end
noncomputable def PK(X:Cx)(kws:List Keyword)(t:TA):Prop :=
 ∀(pos:Pos)(pins:List (Addr×Obj))(s:Shared)(σ:St)(H:Hp)(Q:List V→Hp→Prop),Inv X pins σ H s→t σ H Q→wpAny (model X.prog X.w) X.A (evalAll ((backToKw pos (keywordEach kws X.env)).map (·.2))) (AP X pins σ Q) X.xe s
section
variable {X:Cx} {CX:Ff} {k:Nat} {f C:Addr} {fd:FuncData} {ps ks:List Str} {sp:Sp} {E:XK} {x m:Str} {p pos apos kpos:Pos} {e o:Expr} {es:List Expr} {kws:List Keyword} {te ta:TE} {t tk:TA} {nm:Option Str}
theorem Rw:PK X [] cZ:=fun _ _ _ _ H Q I h=>wpAny_evalAll_nil ⟨[],H,I,.nil,h⟩
theorem Ob(J:PE X e te)(G:PK X kws t):PK X (⟨nm,e,kpos⟩::kws) (aZ te t):=by
 intro pos pins s σ H Q I h
 show wpAny _ _ (evalAll ((do let v ←eval e X.env;standAt pos;pure v)::(backToKw pos (keywordEach kws X.env)).map (·.2))) _ _ s
 refine wpAny_evalAll_cons (wpAny_bind (cG (J pins s σ H _ I h) fun u s1 ⟨x,H1,L,O,F⟩=>wpAny_bind (wpAny_standAt (wpAny_pure ?_))))
 exact cG (G pos pins s1 σ H1 _ L F) fun us s2 ⟨xs,H2,z,D,j⟩=>⟨x::xs,H2,z,.cons O D,j⟩
variable {g:List Value→List Value→List Value} {gV:List V→List V→List V}
end
structure aK (N P:List Str) (sc:Scope):Prop where
 kind:sc.kind=.function
 co:sc.isCoroutine=false
 gen:sc.isGenerator=false
 nd:N.Nodup
 pre:N.take P.length=P
 par:∀x∈P,sc.names.lookup x=some .local∨sc.names.lookup x=some .cell
 nofree:∀y∈sc.names,y.2≠.free
theorem vY{kindOf:Str→Option NameKind}{x:Str}:∀{binds:List (Str×Value)}{m:Str→Option Value},(∀v,(x,v)∉binds)→bindL kindOf binds m x=m x
 | [],_,_=>rfl
 | (n,v)::r,m,h=>by
  unfold bindL
  rw[vY fun w hw=>h w (am _ hw)]
  split
  ·have:x≠n:=by rintro rfl;exact h v b'
   simp[this]
  ·rfl
theorem v4{kindOf:Str→Option NameKind}{x:Str}:∀{binds:List (Str×Value)}{m:Str→Option Value},(∀v,(x,v)∉binds)→bindC kindOf binds m x=m x
 | [],_,_=>rfl
 | (n,v)::r,m,h=>by
  unfold bindC
  rw[v4 fun w hw=>h w (am _ hw)]
  split
  ·rfl
  ·have:x≠n:=by rintro rfl;exact h v b'
   simp[this]
theorem vZ{kindOf:Str→Option NameKind}{x:Str}{v:Value}:∀{P:List Str}{vs:List Value}{i:Nat}{m:Str→Option Value},P.Nodup→P[i]?=some x→vs[i]?=some v→kindOf x=some .local →
  bindL kindOf (P.zip vs) m x=some v
 | [],_,_,_,_,h,_,_=>by simp at h
 | _::_,[],_,_,_,_,h,_=>by simp at h
 | p::P,w::vs,0,m,nd,h1,h2,j=>by
  simp at h1 h2;subst h1;subst h2
  show bindL kindOf ((p,w)::P.zip vs) m p=_
  unfold bindL
  rw[vY fun v z=>(List.nodup_cons.mp nd).1 (List.of_mem_zip z).1,j4 j]
  simp
 | p::P,w::vs,i+1,m,nd,h1,h2,j=>by
  show bindL kindOf ((p,w)::P.zip vs) m x=_
  unfold bindL
  exact vZ (i:=i) (List.nodup_cons.mp nd).2 (by simpa using h1) (by simpa using h2) j
theorem v8{kindOf:Str→Option NameKind}{x:Str}{v:Value}:∀{P:List Str}{vs:List Value}{i:Nat}{m:Str→Option Value},P.Nodup→P[i]?=some x→vs[i]?=some v→kindOf x≠some .local →
  bindC kindOf (P.zip vs) m x=some v
 | [],_,_,_,_,h,_,_=>by simp at h
 | _::_,[],_,_,_,_,h,_=>by simp at h
 | p::P,w::vs,0,m,nd,h1,h2,j=>by
  simp at h1 h2;subst h1;subst h2
  show bindC kindOf ((p,w)::P.zip vs) m p=_
  unfold bindC
  rw[v4 fun v z=>(List.nodup_cons.mp nd).1 (List.of_mem_zip z).1,js j]
  simp
 | p::P,w::vs,i+1,m,nd,h1,h2,j=>by
  show bindC kindOf ((p,w)::P.zip vs) m x=_
  unfold bindC
  exact v8 (i:=i) (List.nodup_cons.mp nd).2 (by simpa using h1) (by simpa using h2) j
noncomputable def start(N:List Str)(vs:List V):St:=vs.map some++List.replicate (N.length-vs.length) none
noncomputable def eU(CX:Ff)(P:Program)(w:World)(K:PySem.W.Frag)(mg:Str→Option Value)(base:Heap)(N:List Str)(qual:Str)(scope:Scope)(f:Addr)(cd:Value)(A:Around)(outer:List Env)(s:Shared)(H:Hp)(E:XK):Cx where
 prog:=P
 w:=w
 K:=K
 mg:=mg
 base:=base
 A:=A.deeper (envOfC qual scope s.heap.objs.size f cd)
 N:=N
 s_0:=s
 H_0:=H
 env:=envOfC qual scope s.heap.objs.size f cd
 outer:=outer
 stack:=envOfC qual scope s.heap.objs.size f cd::outer
 ex:=[]
 calm:=true
 fn:=fun _=>true
 pn:=[]
 xe:=fun e s'=>wpAny (model P w) (A.deeper (envOfC qual scope s.heap.objs.size f cd)) (leaving (envOfC qual scope s.heap.objs.size f cd) e) (fun _ j=>CX outer H s E e j) (fun z j=>CX outer H s E z j) s'
theorem zG{sc:Scope}{n:Nat}{x:Str}(h:sc.names.lookup x=some .cell):∃c,(cellsFrom n sc.names []).lookup x=some c:=by
 have q:=PySem.W.cellsFrom_some sc.names n [] (.inl h)
 exact Option.isSome_iff_exists.mp q
theorem G9{CX:Ff}{P:Program}{w:World}{K:PySem.W.Frag}{mg:Str→Option Value}{base:Heap}{N ps:List Str}{qual:Str}{scope:Scope}{f:Addr}{cd:Value}{A:Around}{outer:List Env}{s s1:Shared}{H:Hp}{E:XK}{us:List Value}{vs:List V}
  (S:aK N ps scope) (hd:A.handled=none) (j:CV P w K mg base A outer s H) (hl:vs.length=ps.length) (r:Vals vs us)
  (x:InCallC s s.heap.objs.size (bindL (envOfC qual scope s.heap.objs.size f cd).kindOf (ps.zip us) fun _=>none) (cellsFrom (s.heap.objs.size+1) scope.names []) (bindC (envOfC qual scope s.heap.objs.size f cd).kindOf (ps.zip us) fun _=>none) s1) :
  Inv (eU CX P w K mg base N qual scope f cd A outer s H E) [] (start N vs) H s1:=by
 have U:ps.length≤N.length:=by have:=congrArg List.length S.pre;rw[ij]at this;omega
 obtain⟨h1,tk,rfl,L⟩:=x.done
 have D:∀b:Addr,b∉(eU CX P w K mg base N qual scope f cd A outer s H E).ex:=fun b z=>absurd (show b∈([]:List Addr)from z) (by simp)
 refine⟨⟨j.mod,S.kind,rfl,rfl,f' _,fun y z c h1 h2=>?_,fun y F=>?_,fun y c _ h=>?_,fun _=>hd,Around.frames_deeper j.frames,.inr ⟨rfl,rfl⟩,fun b z=>absurd z (D b),j.bs,j.bsz,fun b _ _=>D b,fun b z=>absurd z (D b),j.nQ,j.frf⟩,
  rfl,j.bare,Un.kept L,⟨_,x.toInCall.ns,fun i y v h1 h2 h3=>?_⟩,fun y c h=>⟨_,x.cell y c h⟩,j.hok.fresh (f' _),fun y c h=>?_,fun p J=>absurd (show p∈([]:List (Addr×Obj))from J) (by simp),j.hok.kept L,?_⟩
 ·exact name_of_addr x.apart (PySem.mem_of_lookup h1) (PySem.mem_of_lookup h2)
 ·have F:scope.names.lookup y=some .cell∨scope.names.lookup y=some .free:=F
  rcases F with F | F
  ·exact zG F
  ·exact absurd rfl (S.nofree _ (PySem.mem_of_lookup F))
 ·exact Nat.le_of_lt (x.above y c (PySem.mem_of_lookup h))
 ·have hi:i<vs.length:=by
   unfold start at h2
   by_cases hi:i<vs.length
   ·exact hi
   ·rw[List.getElem?_append_right (by simpa using hi)]at h2
    rw[List.getElem?_replicate]at h2
    split at h2<;>cases h2
  have Y:vs[i]?=some v:=by
   unfold start at h2
   rw[List.getElem?_append_left (by simpa using hi),iE]at h2
   cases e:vs[i]? with
   | none=>rw[e]at h2;cases h2
   | some a=>rw[e]at h2;cases h2;rfl
  obtain⟨u,O,Z⟩:=r.get Y
  have J:ps[i]?=some y:=by
   rw[←S.pre,List.getElem?_take_of_lt (by omega)];exact h1
  have G:ps.Nodup:=by rw[←S.pre];exact S.nd.sublist (List.take_sublist _ _)
  refine⟨u,Z,?_⟩
  rcases S.par y (j' J)with k | k
  ·exact .inl ⟨k,vZ G J O k⟩
  ·obtain⟨c,e⟩:=zG (n:=s.heap.objs.size+1) k
   refine .inr ⟨.inl k,c,e,?_⟩
   have q:=x.cell y c e
   rw[v8 G J O (by show scope.names.lookup y≠_;rw[k];decide)]at q
   exact q
 ·exact j.hok.fresh (Nat.le_of_lt (x.above y c (PySem.mem_of_lookup h)))
 ·unfold start
  show _=N.length
  rw[gc,ap,List.length_replicate]
  omega
theorem U3{CX:Ff}{P:Program}{w:World}{K:PySem.W.Frag}{mg:Str→Option Value}{base:Heap}{k:Nat}{f:Addr}{name qual:Str}{params:Arguments}{body:List Stmt}{scope:Scope}{dV kV doc pm cdv ct oc:Value}{an od:Option Addr}
  {osl:Array (Option Value)} {N ps:List Str} {sp:Sp} (lk:K.lookup f=some ⟨oc,od,.func (PySem.W.fnOf name qual params body scope dV kV doc pm an cdv ct),osl⟩) (L:PySem.W.codeIn K cdv qual=true) (S:aK N ps scope)
  (len:∀vs H Q E,sp vs H Q E→vs.length=ps.length)
  (z:∀(A:Around)(outer:List Env)(s:Shared)(H:Hp)(vs:List V)(Q:VK)(E:XK),bH k (A.deeper (envOfC qual scope s.heap.objs.size f cdv))→sp vs H Q E →
   ∃t,zQ (eU CX P w K mg base N qual scope f cdv A outer s H E) body t∧t { nx:=fun _ H'=>Q .non H',rt:=Q } (start N vs) H) :
  aF P w K mg base CX (k+1) f (PySem.W.fnOf name qual params body scope dV kV doc pm an cdv ct) ps sp:=by
 refine⟨len,fun A outer s H args us vs Q E O G hb r F=>?_⟩
 have hl:=len _ _ _ _ F
 have Z:K.In s.heap:=G.mod.kin.keeps fun b o e=>(G.bs b o e).1
 have U:s.heap.NoLimit:=G.mod.nolimit.keeps fun b o e=>(G.bs b o e).1
 have j:∀y∈ps.zip us,scope.names.lookup y.1=some .local∨(scope.names.lookup y.1=some .cell∧((cellsFrom (s.heap.objs.size+1) scope.names []).lookup y.1).isSome=true):=fun⟨n,v⟩ hy=>by
  rcases S.par n (List.of_mem_zip hy).1 with q | q
  ·exact .inl q
  ·exact .inr ⟨q,PySem.W.cellsFrom_some _ _ _ (.inl q)⟩
 refine codeAny_call_function O.depth (Z _ _ lk) rfl S.co S.gen rfl (PySem.W.codeRec_of Z L) (hb _ _ _ _ ?_)
 refine wpAny_newFunctionEnv_cells S.kind j fun env he s1 x=>?_
 subst he
 refine⟨U.keeps x.toInCall.keep,codeAny_func ?_⟩
 obtain⟨t,ht,hq⟩:=z A outer s H vs Q E (O.deeper _) F
 have I:Inv (eU CX P w K mg base N qual scope f cdv A outer s H E) [] (start N vs) H s1:=G9 S O.hd G hl r x
 refine wpAny_mono (ht [] s1 (start N vs) H _ I hq) (fun fl s' D=>?_) fun e s' D=>D
 have fin:∀{σ':St}{H':Hp}{v:V}{u:Value},Inv (eU CX P w K mg base N qual scope f cdv A outer s H E) [] σ' H' s'→RelV v u→Q v H'→CE outer P w H s Q u s' :=
  fun{σ' H' v u} J Y q=>⟨v,H',J.os,J.bare,J.base,J.hok,Y,q⟩
 cases fl with
 | ret u =>
  obtain⟨v,σ',H',J,Y,q⟩:=D
  exact fin J Y q
 | next =>
  obtain⟨σ',H',J,q⟩:=D
  exact fin (v:=V.non) (u:=Value.none) J rfl q
 | brk =>
  obtain⟨_,_,_,q⟩:=D
  exact False.elim q
 | cont =>
  obtain⟨_,_,_,q⟩:=D
  exact False.elim q
end L2
namespace L2
open PySem PySem.Spec PyProof.Rows
section
variable {X:Cx} {x:Str} {p pos:Pos} {e:Expr} {es:List Expr} {t:TA} {id T:String} {r:List V→Hp→VK→Prop}
noncomputable def Qy(r:List V→Hp→VK→Prop)(t:TA):TE:=fun σ H Q=>t σ H fun vs H1=>r vs H1 Q
theorem bW(S:nu X (.builtin id) r)(U:Gl X x)(J:X.mg x=none)(G:bootBuiltins x=some (.builtin id))(L:PA X (e::es) t)(D:x ≠ "__name__":=by decide)(z:(x==("__debug__" : Str))=false:=by decide)
  (Z:starEach (e::es) X.env=(false,eval e X.env)::starEach es X.env:=by rfl) (j:(backTo pos (starEach es X.env)).any (·.1)=false:=by rfl):PE X (.Call (.Name x p) (e::es) [] pos) (Qy r t):=by
 intro pins s σ H Q I h
 refine wpAny_Call_Name_kw (qe I U J G ?_ D z)
 exact PyProof.Rows.callWith_builtin1 (cG (L pos pins s σ H _ I h) fun us s1 ⟨vs,H1,O,Y,F⟩=>S pins s1 σ H1 vs us Q O Y F) Z j
theorem iJ(S:nu X (.type T) r)(U:Gl X x)(J:X.mg x=none)(G:bootBuiltins x=some (.type T))(L:PA X (e::es) t)(D:x ≠ "__name__":=by decide)(z:(x==("__debug__" : Str))=false:=by decide)
  (Z:starEach (e::es) X.env=(false,eval e X.env)::starEach es X.env:=by rfl) (j:(backTo pos (starEach es X.env)).any (·.1)=false:=by rfl):PE X (.Call (.Name x p) (e::es) [] pos) (Qy r t):=by
 intro pins s σ H Q I h
 refine wpAny_Call_Name_kw (qe I U J G ?_ D z)
 exact PyProof.Rows.callWith_type1 (cG (L pos pins s σ H _ I h) fun us s1 ⟨vs,H1,O,Y,F⟩=>S pins s1 σ H1 vs us Q O Y F) Z j
end
end L2
namespace HT
open PySem PyProof.Rows
section
open PySem.SeqAt
open PySem.AutoSeq1 (wpAny_loadPart')
open PySem.MeetsSeq PySem.MeetsSeq2 PySem.MeetsSeq3
end
section
variable {prog:Program} {w:World} {A:Around} {E:Value→Shared→Prop} {s:Shared}
noncomputable def gj(n d:Nat):Option Int→Nat
 | none=>d
 | some v=>if v<0 then(v+(n:Int)).toNat else min v.toNat n
theorem JT(n d:Nat):gj n d none=d:=rfl
theorem oK(n d k:Nat):gj n d (some (k:Int))=min k n:=by
 show(if(k:Int)<0 then((k:Int)+(n:Int)).toNat else min (k:Int).toNat n)=min k n
 rw[js (by omega),Int.toNat_natCast]
theorem JV(n d:Nat)(hd:d≤n)(o:Option Int):gj n d o≤n:=by
 cases o with
 | none=>exact hd
 | some v =>
  show(if v<0 then(v+(n:Int)).toNat else min v.toNat n)≤n
  by_cases j:v<0
  ·rw[j4 j];omega
  ·rw[js j];exact Nat.min_le_right _ _
end
end HT
namespace L2
open PySem PySem.Spec PyProof.Rows
noncomputable abbrev TO:=St→Hp→(Option Int→Hp→Prop)→Prop
noncomputable def PO(X:Cx)(e:Option Expr)(t:TO):Prop :=
 ∀(pins:List (Addr×Obj))(s:Shared)(σ:St)(H:Hp)(Q:Option Int→Hp→Prop),Inv X pins σ H s→t σ H Q →
  wpAny (model X.prog X.w) X.A (evalPart e X.env) (fun u s'=>∃o H',Inv X pins σ H' s'∧IsPart u o∧Q o H') X.xe s
noncomputable def Nm:TO:=fun _ H Q=>Q none H
noncomputable def TJ(t:TE):TO:=fun σ H Q=>t σ H fun x H1=>∃i,x=.int i∧Q (some i) H1
section
variable {X:Cx} {e:Expr} {te:TE} {lo hi:Option Expr} {tl th:TO} {pos p2:Pos}
theorem Dv:PO X none Nm:=by
 intro pins s σ H Q I h
 rw[evalPart_none]
 exact wpAny_pure ⟨none,H,I,.none,h⟩
theorem gU(h:PE X e te):PO X (some e) (TJ te):=by
 intro pins s σ H Q I hw
 rw[evalPart_some]
 refine cG (h pins s σ H _ I hw) fun u s1 ⟨x,H1,z,D,j⟩=>?_
 obtain⟨i,rfl,q⟩:=j
 obtain⟨t,rfl⟩:=D
 exact⟨some i,H1,z,.int i t,q⟩
noncomputable def Wn(X:Cx)(r:V→Option Int→Option Int→Hp→VK→Prop):Prop :=
 ∀(pins:List (Addr×Obj))(s:Shared)(σ:St)(H:Hp)(x:V)(v z j:Value)(lo hi:Option Int)(sl:Addr)(Q:VK),Inv X pins σ H s→RelV x v→s.heap.IsSliceOf sl z j .none→IsPart z lo→IsPart j hi→r x lo hi H Q →
  ∃T id,typeLookup (.type T) "__getitem__"=pure (some (.builtin id))∧s.TypeIs v T∧wpAny (model X.prog X.w) X.A (getItem v (.ref sl)) (EP X pins σ Q) X.xe s
noncomputable def WD(r:V→Option Int→Option Int→Hp→VK→Prop)(te:TE)(tl th:TO):TE:=fun σ H Q=>te σ H fun x H1=>tl σ H1 fun l H2=>th σ H2 fun u j=>r x l u j Q
theorem jZ{r:V→Option Int→Option Int→Hp→VK→Prop}(U:Wn X r)(he:PE X e te)(Y:PO X lo tl)(hu:PO X hi th):PE X (.Subscript e (.Slice lo hi none p2) pos) (WD r te tl th):=by
 intro pins s σ H Q I h
 refine Subscript_ (cG (he pins s σ H _ I h) fun v s1 ⟨x,H1,Z,r1,L⟩=>?_)
 refine wpAny_Slice (cG (Y pins s1 σ H1 _ Z L) fun z s2 ⟨l,H2,J,pl,G⟩=>cG (hu pins s2 σ H2 _ J G) fun D j ⟨u,F,I3,S,O⟩=>?_)
 rw[evalPart_none]
 refine wpAny_pure ?_
 have I4:Inv X pins σ F { j with heap:=j.heap.push { cls:=.type "slice",data:=.fields #[z,D,.none] } }:=I3.kept (t':=j.toks) fun b ob q=>Heap.get?_push_of_some _ q
 obtain⟨T,id,hT,ht,hg⟩:=U pins { j with heap:=j.heap.push { cls:=.type "slice",data:=.fields #[z,D,.none] } } σ F x v z D l u j.heap.objs.size Q I4 r1 (Heap.IsSliceOf.new ..) pl S O
 show wpAny (model X.prog X.w) X.A (subscriptTail e (.Slice lo hi none p2) v (.ref j.heap.objs.size)) (EP X pins σ Q) X.xe { j with heap:=j.heap.push { cls:=.type "slice",data:=.fields #[z,D,.none] } }
 exact tail_any (ops:=[.ref j.heap.objs.size,v]) ht hT hg (by with_unfolding_all rfl)
noncomputable def nW(xs:List V)(lo hi:Option Int):List V:=(xs.drop (HT.gj xs.length 0 lo)).take (HT.gj xs.length xs.length hi-HT.gj xs.length 0 lo)
theorem zB(xs:List V)(lo hi:Option Int):(nW xs lo hi).length≤xs.length:=by
 unfold nW
 rw[ij,kg]
 omega
end
end L2
namespace L2
open PySem PySem.Spec PyProof.Rows
noncomputable def M8(n:Nat)(i:Int):Option Nat:=if 0≤i then(if i<n then some i.toNat else none)else if -(n:Int)≤i then some (i+n).toNat else none
noncomputable def qY{α:Type}(xs:List α)(i:Int):Option α:=(M8 xs.length i).bind fun j=>xs[j]?
theorem PQ{n:Nat}{i:Int}{j:Nat}(h:M8 n i=some j):seqIndex? i n=some j∧j<n∧-(n:Int)≤i∧i<n:=by
 unfold M8 at h
 by_cases h0:0≤i
 ·rw[j4 h0]at h
  by_cases h1:i<n
  ·rw[j4 h1]at h
   have e:i.toNat=j:=Option.some.inj h
   exact⟨by rw[seqIndex_of h0 h1,e],by omega,by omega,h1⟩
  ·rw[js h1]at h;cases h
 ·rw[js h0]at h
  by_cases h1:-(n:Int)≤i
  ·rw[j4 h1]at h
   have e:(i+n).toNat=j:=Option.some.inj h
   exact⟨by rw[seqIndex_neg (by omega) h1,e],by omega,h1,by omega⟩
  ·rw[js h1]at h;cases h
theorem x_{α:Type}{xs:List α}{i:Int}{v:α}(h:qY xs i=some v):∃j,seqIndex? i xs.length=some j∧xs[j]?=some v∧j<xs.length∧-(xs.length:Int)≤i∧i<xs.length:=by
 unfold qY at h
 cases e:M8 xs.length i with
 | none=>rw[e]at h;cases h
 | some j =>
  rw[e]at h
  obtain⟨h1,h2,z,D⟩:=PQ e
  exact⟨j,h1,h,h2,z,D⟩
theorem jx{α:Type}{xs:List α}{j:Nat}{v:α}(h:xs[j]?=some v):qY xs (j:Int)=some v:=by
 have z:j<xs.length:=(hZ.mp h).1
 have e:M8 xs.length (j:Int)=some j:=by
  unfold M8
  rw[j4 (by omega),j4 (by omega)];simp
 unfold qY;rw[e];exact h
noncomputable def tU(b:Expr):Prop:=∀o i,subscripted b false o i=operate [o,i] (getItem o i)
noncomputable def Vo(X:Cx)(r:R2):Prop :=
 ∀(value slice:Expr)(pins:List (Addr×Obj))(s:Shared)(σ:St)(H:Hp)(x y:V)(v u:Value)(Q:VK),Inv X pins σ H s→RelV x v→RelV y u→r x y H Q →
  subscripted slice false v u=operate [v,u] (getItem v u)→wpAny (model X.prog X.w) X.A (subscriptTail value slice v u) (EP X pins σ Q) X.xe s
noncomputable def Hy(X:Cx)(id:String)(r:V→List V→Hp→VK→Prop):Prop :=
 ∀(pins:List (Addr×Obj))(s:Shared)(σ:St)(H:Hp)(x:V)(xs:List V)(v:Value)(us:List Value)(Q:VK),Inv X pins σ H s→RelV x v→Vals xs us→r x xs H Q →
  wpAny (model X.prog X.w) X.A (call (.builtin id) (v::us)) (EP X pins σ Q) X.xe s
section
variable {X:Cx} {a b:Expr} {ta tb:TE} {pos:Pos}
theorem b7{r:R2}(D:Vo X r)(G:PE X a ta)(L:PE X b tb)(F:tU b):PE X (.Subscript a b pos) (Io r ta tb):=by
 intro pins s σ H Q I h
 exact Subscript_ (SM G L I h fun v u s2 x y H2 z j J q=>D a b pins s2 σ H2 x y v u Q z j J q (F _ _))
noncomputable def Ax(K:PySem.W.Frag):R2:=fun x y H Q=>∃p xs i v,x=.ref p∧y=.int i∧bZ K H p xs∧qY xs i=some v∧Q v H
noncomputable def J_(K:PySem.W.Frag):R2:=fun x y H Q=>∃p xs i v,x=.ref p∧y=.int i∧cR K H p xs∧qY xs i=some v∧Q v H
noncomputable def VL:R2:=fun x y H Q=>∃z i c,x=.str z∧y=.int i∧z.length≤sizeLine∧qY z.cps.toList i=some c∧Q (.str ⟨#[c]⟩) H
theorem di:Vo X (Ax X.K):=by
 intro value slice pins s σ H x y v u Q I L Y h J
 obtain⟨p,xs,i,z,rfl,rfl,S,he,q⟩:=h
 cases L
 obtain⟨t,rfl⟩:=Y
 obtain⟨its,r,pl,hz⟩:=I.list S
 obtain⟨j,h1,h2,h3,Z,O⟩:=x_ he
 obtain⟨w,G,F⟩:=r.get h2
 have U:=r.length
 have hn:=qd
 have fin:EP X pins σ Q w s:=⟨z,H,I,F,q⟩
 by_cases h0:0≤i
 ·have D:i.toNat=j:=by
   rw[seqIndex_of h0 O]at h1
   exact Option.some.inj h1
  exact item_listR pl.isList h0 (by omega) (by rw[D];simpa using G) fin J
 ·have D:(i+(its.toArray.size:Int)).toNat=j:=by
   rw[seqIndex_neg (by omega) Z]at h1
   rw[ib,←U]
   exact Option.some.inj h1
  exact subscriptTail_builtinR (x:=w) pl.isList.typeIs slot_list_getitem.lookup
   (wpAny_getItem_list_neg (Q:=fun r s'=>r=w∧EP X pins σ Q r s') pl.isList (by omega) (by rw[ib]<;>omega) (by omega) (by rw[D];simpa using G) ⟨rfl,fin⟩) J
theorem cY:Vo X (J_ X.K):=by
 intro value slice pins s σ H x y v u Q I F S h J
 obtain⟨p,xs,i,z,rfl,rfl,L,U,q⟩:=h
 cases F
 obtain⟨t,rfl⟩:=S
 obtain⟨its,r,pl,hz⟩:=I.tuple L
 obtain⟨j,h1,h2,Y,h4,h5⟩:=x_ U
 obtain⟨w,G,D⟩:=r.get h2
 have O:=r.length
 have Z:=qd
 have fin:EP X pins σ Q w s:=⟨z,H,I,D,q⟩
 exact subscriptTail_builtinR (x:=w) pl.typeIs slot_tuple_getitem.lookup
  (getItem_tuple (j:=j) (Q:=fun r s'=>r=w∧EP X pins σ Q r s') pl (by omega) (by omega) (by rw[ib,←O];exact h1) (by simpa using G) ⟨rfl,fin⟩) J
theorem Lw:Vo X VL:=by
 intro value slice pins s σ H x y v u Q I D L h G
 obtain⟨z,i,c,rfl,rfl,hz,S,q⟩:=h
 obtain⟨t,rfl⟩:=D
 obtain⟨t',rfl⟩:=L
 obtain⟨j,h1,h2,U,O,F⟩:=x_ S
 have J:z.cps.toList.length=z.length:=by simp[Str.length]
 rw[J]at h1 O F
 have Y:=qd
 exact tail_any (typeIs_str s z t) slot_str_getitem.lookup (getItem_str (c:=c) (by
  have e1:decide (i < -(2 ^ 63:Int))=false:=j5 (by omega)
  have e2:decide (i≥2 ^ 63)=false:=j5 (by omega)
  rw[e1,e2,Bool.or_false]) (by rw[h1];simpa using h2) ⟨.str ⟨#[c]⟩,H,I.tok _,⟨_,rfl⟩,q⟩) G
theorem wJ(lo hi:Option Int)(n:Nat):(sliceBounds lo hi none n).1=((HT.gj n 0 lo:Nat):Int)∧(sliceBounds lo hi none n).2.1=((HT.gj n n hi:Nat):Int)∧(sliceBounds lo hi none n).2.2=1:=by
 refine⟨?_,?_,rfl⟩
 ·cases lo with
  | none=>simp[sliceBounds,HT.gj]
  | some i =>
   simp only[sliceBounds,HT.gj,Option.getD_none,show(1:Int)>0 by decide,if_true]
   by_cases h:i<0
   ·simp only[h,if_true]<;>omega
   ·simp only[h,if_false]<;>omega
 ·cases hi with
  | none=>simp[sliceBounds,HT.gj]
  | some i =>
   simp only[sliceBounds,HT.gj,Option.getD_none,show(1:Int)>0 by decide,if_true]
   by_cases h:i<0
   ·simp only[h,if_true]<;>omega
   ·simp only[h,if_false]<;>omega
theorem u_(its:List Value)(lo hi:Option Int):slicePick its.toArray lo hi none=((its.drop (HT.gj its.length 0 lo)).take (HT.gj its.length its.length hi-HT.gj its.length 0 lo)).toArray:=by
 obtain⟨h1,h2,j⟩:=wJ lo hi its.toArray.size
 unfold slicePick
 rw[h1,h2,j]
 simp only[sliceRange_one,pick_run,ib]<;>rfl
noncomputable def VH(K:PySem.W.Frag):V→Option Int→Option Int→Hp→VK→Prop:=fun x lo hi H Q=>∃a xs,x=.ref a∧bZ K H a xs∧∀p,H p=none→Q (.ref p) (upd H p (.lst (nW xs lo hi)))
theorem rY:Wn X (VH X.K):=by
 intro pins s σ H x v L O lo hi sl Q I D G pl F h
 obtain⟨a,xs,rfl,hx,q⟩:=h
 cases D
 obtain⟨its,r,z,hz⟩:=I.list hx
 have j:=r.length
 refine⟨"list",_,slot_list_getitem.lookup,z.isList.typeIs,?_⟩
 refine wpAny_getItem_list_slice z.isList G pl F .none (by simp) ?_ (by rw[ib]<;>omega)
 rw[u_,←j]
 refine⟨.ref s.heap.objs.size,_,I.laid (t':=s.toks) (o:=.lst (nW xs lo hi)) (fun b J q=>Heap.get?_push_of_some _ q) (f' _) ?_,rfl,q _ (I.hok.fresh (f' _))⟩
 exact⟨iq (zB xs lo hi) hz,_,0,(r.drop (HT.gj xs.length 0 lo)).take (HT.gj xs.length xs.length hi-HT.gj xs.length 0 lo),Heap.get?_push_size _ rfl⟩
noncomputable def fX:V→Bool
 | .non=>true
 | .bl _=>true
 | .int _=>true
 | .str _=>true
 | _=>false
noncomputable def Mh:V→V→Bool
 | .non,.non=>true
 | .bl a,.bl b=>a==b
 | .bl a,.int b=>(if a then 1 else 0)==b
 | .int a,.bl b=>a==(if b then 1 else 0)
 | .int a,.int b=>a==b
 | .str a,.str b=>a==b
 | _,_=>false
theorem Mi{A:Around}{s:Shared}{y x:V}{u v:Value}(z:RelV y u)(j:RelV x v)(F:fX y=true)(D:fX x=true):SeqAt.EqAt A s u v (Mh y x):=by
 cases y with
 | non =>
  cases z
  cases x with
  | non=>cases j;exact SeqAt.EqAt.same _
  | bl b=>cases j;exact SeqAt.EqAt.none_bool b
  | int b=>obtain⟨t,rfl⟩:=j;exact SeqAt.EqAt.none_int b t
  | str b=>obtain⟨t,rfl⟩:=j;exact SeqAt.EqAt.none_str b t
  | _=>exact absurd (show false=true from D) ip
 | bl a =>
  cases z
  cases x with
  | non=>cases j;exact SeqAt.EqAt.bool_none a
  | bl b=>cases j;exact SeqAt.EqAt.bool_bool a b
  | int b=>obtain⟨t,rfl⟩:=j;exact SeqAt.EqAt.bool_int a b t
  | str b=>obtain⟨t,rfl⟩:=j;exact SeqAt.EqAt.bool_str a b t
  | _=>exact absurd (show false=true from D) ip
 | int a =>
  obtain⟨t',rfl⟩:=z
  cases x with
  | non=>cases j;exact SeqAt.EqAt.int_none a t'
  | bl b=>cases j;exact SeqAt.EqAt.int_bool a t' b
  | int b=>obtain⟨t,rfl⟩:=j;exact SeqAt.EqAt.int_int a t' b t
  | str b=>obtain⟨t,rfl⟩:=j;exact SeqAt.EqAt.int_str a t' b t
  | _=>exact absurd (show false=true from D) ip
 | str a =>
  obtain⟨t',rfl⟩:=z
  cases x with
  | non=>cases j;exact SeqAt.EqAt.str_none a t'
  | bl b=>cases j;exact SeqAt.EqAt.str_bool a t' b
  | int b=>obtain⟨t,rfl⟩:=j;exact SeqAt.EqAt.str_int a t' b t
  | str b=>obtain⟨t,rfl⟩:=j;exact SeqAt.EqAt.str_str a t' b t
  | _=>exact absurd (show false=true from D) ip
 | _=>exact absurd (show false=true from F) ip
noncomputable def zU(x:V)(u:Value):Bool:=match u with
 | .none=>Mh .non x
 | .bool b=>Mh (.bl b) x
 | .int i _=>Mh (.int i) x
 | .str z _=>Mh (.str z) x
 | _=>false
theorem xK{x y:V}{u:Value}(r:RelV y u)(f:fX y=true):zU x u=Mh y x:=by
 cases y with
 | non=>cases r;rfl
 | bl b=>cases r;rfl
 | int i=>obtain⟨t,rfl⟩:=r;rfl
 | str z=>obtain⟨t,rfl⟩:=r;rfl
 | _=>exact absurd (show false=true from f) ip
theorem pH{x:V}:∀{xs:List V}{us:List Value},Vals xs us→xs.all fX=true→us.any (zU x)=xs.any fun y=>Mh y x
 | _,_,.nil,_=>rfl
 | y::xs,u::us,.cons r t,f=>by
  rw[List.all_cons,ia]at f
  rw[List.any_cons,List.any_cons,xK r f.1,pH t f.2]
theorem iR{A:Around}{s:Shared}{x:V}{v:Value}(z:RelV x v)(D:fX x=true):∀{xs:List V}{us:List Value},Vals xs us→xs.all fX=true→∀u∈us,SeqAt.EqAt A s u v (zU x u)
 | _,_,.nil,_=>fun u j=>by cases j
 | y::xs,u::us,.cons r t,f=>fun F j=>by
  rw[List.all_cons,ia]at f
  rcases hU.mp j with rfl | j
  ·rw[xK r f.1];exact Mi r z f.1 D
  ·exact iR z D t f.2 F j
noncomputable def inV(x:V)(xs:List V):Bool:=xs.any fun y=>Mh y x
noncomputable def Wq(K:PySem.W.Frag)(neg:Bool):R2:=fun x y H Q=>∃p xs,y=.ref p∧(bZ K H p xs∨cR K H p xs)∧fX x=true∧xs.all fX=true∧Q (.bl (if neg then !inV x xs else inV x xs)) H
theorem iQ:pL X (compareOp .In) (Wq X.K false):=by
 intro pins s σ H x y v u Q I z F h
 obtain⟨p,xs,rfl,j,D,fs,q⟩:=h
 cases F
 rcases j with j | j
 ·obtain⟨its,r,pl,hz⟩:=I.list j
  refine SeqAt.in_listAt (zU x) pl.isList (fun w hw=>iR z D r fs w (by simpa using hw)) ⟨.bl _,H,I,rfl,?_⟩
  rw[show its.toArray.any (zU x)=its.any (zU x) by simp,pH r fs]
  exact q
 ·obtain⟨its,r,pl,hz⟩:=I.tuple j
  refine SeqAt.in_tupleAt (zU x) pl (fun w hw=>iR z D r fs w (by simpa using hw)) ⟨.bl _,H,I,rfl,?_⟩
  rw[show its.toArray.any (zU x)=its.any (zU x) by simp,pH r fs]
  exact q
theorem xg:pL X (compareOp .NotIn) (Wq X.K true):=by
 intro pins s σ H x y v u Q I z F h
 obtain⟨p,xs,rfl,j,D,fs,q⟩:=h
 cases F
 rcases j with j | j
 ·obtain⟨its,r,pl,hz⟩:=I.list j
  refine SeqAt.notIn_listAt (zU x) pl.isList (fun w hw=>iR z D r fs w (by simpa using hw)) ⟨.bl _,H,I,rfl,?_⟩
  rw[show its.toArray.any (zU x)=its.any (zU x) by simp,pH r fs]
  exact q
 ·obtain⟨its,r,pl,hz⟩:=I.tuple j
  refine SeqAt.notIn_tupleAt (zU x) pl (fun w hw=>iR z D r fs w (by simpa using hw)) ⟨.bl _,H,I,rfl,?_⟩
  rw[show its.toArray.any (zU x)=its.any (zU x) by simp,pH r fs]
  exact q
theorem bG:nu X (.builtin "len") (fun xs H Q=>∃p ys,xs=[.ref p]∧(bZ X.K H p ys∨cR X.K H p ys)∧Q (.int ys.length) H):=by
 intro pins s σ H xs us Q I r h
 obtain⟨p,ys,rfl,z,q⟩:=h
 obtain⟨u,rfl,F⟩:=vals1 r
 cases F
 have G:=qd
 rcases z with z | z
 ·obtain⟨its,D,pl,hz⟩:=I.list z
  have j:=D.length
  exact Calls.call_len_list pl.isList (by simp only[ib]<;>omega) ⟨.int ys.length,H,I.tok _,⟨s.toks+1,by rw[ib,j]⟩,q⟩
 ·obtain⟨its,D,pl,hz⟩:=I.tuple z
  have j:=D.length
  exact len_tuple pl (by simp only[ib]<;>omega) ⟨.int ys.length,H,I.tok _,⟨s.toks+1,by rw[ib,j]⟩,q⟩
theorem gn:nu X (.builtin "len") (fun xs H Q=>∃z,xs=[.str z]∧z.length≤sizeLine∧Q (.int z.length) H):=by
 intro pins s σ H xs us Q I r h
 obtain⟨z,rfl,hz,q⟩:=h
 obtain⟨u,rfl,t,rfl⟩:=vals1 r
 have j:=qd
 exact len_str (by omega) ⟨.int z.length,H,I.tok _,⟨_,rfl⟩,q⟩
theorem xT:nu X (.type "list") (fun xs H Q=>∃p ys,xs=[.ref p]∧(bZ X.K H p ys∨cR X.K H p ys)∧∀l,H l=none→Q (.ref l) (upd H l (.lst ys))):=by
 intro pins s σ H xs us Q I r h
 obtain⟨p,ys,rfl,D,q⟩:=h
 obtain⟨u,rfl,L⟩:=vals1 r
 cases L
 have fin:∀(its:List Value),Vals ys its→ys.length≤sizeLine→∀(h':Heap)(j:Nat),(∀b o',s.heap.get? b=some o'→h'.get? b=some o') →
   h'.get? s.heap.objs.size=some { cls:=.type "list",dict:=none,data:=.seq its.toArray j,slots:=#[] }→EP X pins σ Q (.ref s.heap.objs.size) { s with heap:=h' }:=fun its z hz h' j kp e =>
  ⟨.ref s.heap.objs.size,_,I.laid (t':=s.toks) kp (f' _) (show cV X.prog X.w _ h' _ (.lst ys)from⟨hz,its,j,z,e⟩),rfl,q _ (I.hok.fresh (f' _))⟩
 rcases D with D | D
 ·obtain⟨its,z,pl,hz⟩:=I.list D
  have F:=z.length
  obtain⟨o,G,J,n,hd⟩:=pl.isList
  exact call_list_seq p (.inl rfl) G J hd (fun h' j kp e=>fin its z hz h' j kp e) (by simp only[ib]<;>omega)
 ·obtain⟨its,z,pl,hz⟩:=I.tuple D
  have F:=z.length
  obtain⟨o,G,J,n,hd⟩:=pl
  exact call_list_seq p (.inr rfl) G J hd (fun h' j kp e=>fin its z hz h' j kp e) (by simp only[ib]<;>omega)
theorem vg:nu X (.type "tuple") (fun xs H Q=>∃p ys,xs=[.ref p]∧((bZ X.K H p ys∧∀l,H l=none→Q (.ref l) (upd H l (.tup ys)))∨(cR X.K H p ys∧Q (.ref p) H))):=by
 intro pins s σ H xs us Q I r h
 obtain⟨p,ys,rfl,h⟩:=h
 obtain⟨u,rfl,G⟩:=vals1 r
 cases G
 rcases h with⟨j,q⟩ | ⟨j,q⟩
 ·obtain⟨its,z,pl,hz⟩:=I.list j
  have D:=z.length
  refine call_tuple_list pl.isList (fun h' kp=>?_) (by simp only[ib]<;>omega)
  have F:Inv X pins σ H { s with heap:=h' }:=I.kept (t':=s.toks) kp
  have J:Inv X pins σ (upd H h'.objs.size (.tup ys)) { s with heap:=h'.push { cls:=.type "tuple",data:=.seq its.toArray } } :=
   F.laid (t':=s.toks) (fun b o e=>Heap.get?_push_of_some _ e) (f' _) (show cV X.prog X.w _ _ _ (.tup ys)from⟨hz,its,z,IsTup.new _ _⟩)
  exact⟨.ref h'.objs.size,_,J,rfl,q _ (F.hok.fresh (f' _))⟩
 ·obtain⟨its,z,pl,hz⟩:=I.tuple j
  exact call_tuple_same pl ⟨.ref p,H,I,rfl,q⟩
noncomputable def Vq(K:PySem.W.Frag)(T:String)(x:V)(H:Hp):Prop:=match x with
 | .str _=>T = "str"
 | .int _=>T = "int"
 | .ref p=>(T = "list"∧∃xs,bZ K H p xs)∨(T = "tuple"∧∃o,K.lookup p=some o∧o.cls=.type "tuple"∧o.dict=none) ∨
   (T = "dict"∧((∃kvs,H p=some (.dK kvs))∨∃kvs,H p=some (.dT kvs)))∨(T = "set"∧∃S n,H p=some (.set S n))
 | _=>False
theorem Ia{pins:List (Addr×Obj)}{σ:St}{H:Hp}{s:Shared}{T:String}{x:V}{v:Value}(I:Inv X pins σ H s)(r:RelV x v)(ty:Vq X.K T x H) :
  s.TypeIs v T∧∀a,v=.ref a→∃D,s.heap.get? a=some D∧D.dict=none:=by
 cases x with
 | str z =>
  obtain⟨t,rfl⟩:=r
  cases(show T = "str" from ty)
  exact⟨typeIs_str s z t,fun _ e=>nomatch e⟩
 | int i =>
  obtain⟨t,rfl⟩:=r
  cases(show T = "int" from ty)
  exact⟨typeIs_int s i t,fun _ e=>nomatch e⟩
 | ref p =>
  cases r
  rcases ty with⟨rfl,xs,F⟩ | ⟨rfl,o,j,G,hd⟩ | ⟨rfl,j⟩ | ⟨rfl,S,n,j⟩
  ·obtain⟨its,_,pl,_⟩:=I.list F
   refine⟨pl.isList.typeIs,fun a e=>?_⟩
   cases e
   obtain⟨o,n,e,c,hd,_⟩:=pl
   exact⟨o,e,hd⟩
  ·refine⟨⟨o,I.oZ p o j,G⟩,fun a e=>?_⟩
   cases e
   exact⟨o,I.oZ _ o j,hd⟩
  ·have z:∃o,s.heap.get? p=some o∧o.ExactDict:=by
    rcases j with⟨kvs,j⟩ | ⟨kvs,j⟩
    ·obtain⟨_,_,_,_,o,_,_,e,ex,_⟩:=I.hok p _ j
     exact⟨o,e,ex⟩
    ·obtain⟨_,_,_,_,o,_,_,e,ex,_⟩:=I.hok p _ j
     exact⟨o,e,ex⟩
   obtain⟨o,e,ex⟩:=z
   refine⟨⟨o,e,ex.1⟩,fun a e2=>?_⟩
   cases e2
   exact⟨o,e,ex.2.1⟩
  ·obtain⟨o,_,_,_,e,ex,_⟩:=I.hok p _ j
   refine⟨⟨o,e,ex.1⟩,fun a e2=>?_⟩
   cases e2
   exact⟨o,e,ex.2.1⟩
 | _=>exact False.elim ty
noncomputable def Vw(K:PySem.W.Frag)(T:String)(r:V→List V→Hp→VK→Prop)(to:TE):TE:=fun σ H Q=>to σ H fun x H1=>Vq K T x H1∧r x [] H1 Q
noncomputable def WK(K:PySem.W.Frag)(T:String)(r:V→List V→Hp→VK→Prop)(to:TE)(t:TA):TE:=fun σ H Q=>to σ H fun x H1=>Vq K T x H1∧t σ H1 fun xs H2=>r x xs H2 Q
variable {o e:Expr} {es:List Expr} {to:TE} {t:TA} {name:Str} {apos cpos:Pos} {T id:String} {r:V→List V→Hp→VK→Prop}
theorem Be(J:PlainAttrs T)(slot:Slot T name id)(D:typeOf (.builtin id)=pure (.type "method_descriptor"))(O:Hy X id r)(S:PE X o to)
  (j:attributeBase o name X.env (eval o X.env)=eval o X.env:=by rfl) (z:(apos.endLine==cpos.line)=true:=by rfl):PE X (.Call (.Attribute o name apos) [] [] cpos) (Vw X.K T r to):=by
 intro pins s σ H Q I h
 refine wpAny_Call_method0_late j z (cG (S pins s σ H _ I h) fun v s1 ⟨x,H1,F,G,ty,L⟩=>?_)
 obtain⟨h1,h2⟩:=Ia F G ty
 exact⟨T,id,J,slot,D,h1,h2,Calls.callWith_builtin rfl (PySem.evalArgs_none (O pins s1 σ H1 x [] v [] Q F G .nil L))⟩
theorem gC(S:PlainAttrs T)(slot:Slot T name id)(G:typeOf (.builtin id)=pure (.type "method_descriptor"))(hm:Hy X id r)(ho:PE X o to)(ha:PA X (e::es) t)
  (z:attributeBase o name X.env (eval o X.env)=eval o X.env:=by rfl)
  (F:((backTo cpos (starEach (e::es) X.env)).all (fun x=>!x.1)&&(backToKw cpos (keywordEach [] X.env)).all (fun x=>x.1.isSome)
   && decide ((e::es).length+([]:List Keyword).length+(if([]:List Keyword).isEmpty then 0 else 1)<30))=true:=by rfl)
  (D:(apos.endLine==cpos.line)=true:=by rfl) (hs:starEach (e::es) X.env=(false,eval e X.env)::starEach es X.env:=by rfl) (j:(backTo cpos (starEach es X.env)).any (·.1)=false:=by rfl) :
  PE X (.Call (.Attribute o name apos) (e::es) [] cpos) (WK X.K T r to t):=by
 intro pins s σ H Q I h
 refine wpAny_Call_method_late z F D rfl (cG (ho pins s σ H _ I h) fun v s1 ⟨x,H1,L,O,ty,q1⟩=>?_)
 obtain⟨h1,h2⟩:=Ia L O ty
 refine⟨T,id,S,slot,G,h1,h2,?_⟩
 have J:=ha cpos pins s1 σ H1 _ L q1
 rw[hs]at J ⊢
 refine Calls.callWith_builtin (by show(false||(backTo cpos (starEach es X.env)).any (·.1))=false;rw[j]<;>rfl) (Calls.evalArgs_plain ?_)
 exact cG J fun us s2 ⟨vs,H2,Y,Z,U⟩=>hm pins s2 σ H2 x vs v us Q Y O Z U
/- xs.append(e),list.index on a module's tuple .. are Hy facts of 06m -/
end
end L2
namespace L2
open PySem PySem.Spec PyProof.Rows
noncomputable def Vn(X:Cx)(id:String)(r:V→List V→Hp→VK→Prop):Prop :=
 ∀(pins:List (Addr×Obj))(s:Shared)(σ:St)(H:Hp)(x:V)(xs:List V)(v:Value)(us:List Value)(Q:VK),Inv X pins σ H s→RelV x v→Vals xs us→r x xs H Q →
  wpAny (model X.prog X.w) X.A (call (.builtin id) (v::us)) (EP X pins σ Q) X.xe s
theorem Vals.one:∀{x:V}{us:List Value},Vals [x] us→∃u,us=[u]∧RelV x u
 | _,_,.cons r .nil=>⟨_,rfl,r⟩
theorem Vals.zero:∀{us:List Value},Vals [] us→us=[]
 | _,.nil=>rfl
theorem Vals.dropLast{xs:List V}{us:List Value}(h:Vals xs us):Vals xs.dropLast us.dropLast:=by
 induction h with
 | nil=>exact .nil
 | cons r t j =>
  cases t with
  | nil=>exact .nil
  | cons q t'=>exact .cons r j
theorem BV{α:Type}(l:List α):l.eraseIdx (l.length-1)=l.dropLast:=by
 induction l with
 | nil=>rfl
 | cons a r j =>
  cases r with
  | nil=>rfl
  | cons b r =>
   have e:(a::b::r).length-1=((b::r).length-1)+1:=by
    have h1:(a::b::r).length=r.length+2:=rfl
    have h2:(b::r).length=r.length+1:=rfl
    omega
   rw[e,List.eraseIdx_cons_succ,j]
   all_goals rfl
section
variable {X:Cx} {pins:List (Addr×Obj)} {σ:St} {H:Hp} {s:Shared} {l b:Addr} {xs ys zs:List V}
theorem Inv.Pj{its its':List Value}{n:Nat}{f:Array Value→Array Value}{t':Nat}(I:Inv X pins σ H s)(z:H l=some (.lst xs))
  (e:s.heap.get? l=some { cls:=.type "list",data:=.seq its.toArray n }) (D:f its.toArray=its'.toArray) (j:Vals ys its') (hz:ys.length≤sizeLine) :
  Inv X pins σ (upd H l (.lst ys)) { s with heap:=s.heap.update l (Obj.mapSeq f),toks:=t' }:=by
 have q:=PySem.IsL.update e f
 rw[D]at q
 refine I.write (x:=l) (e:=l) (by rw[z];exact trivial) (.inl rfl) (fun J u F G=>(Heap.get?_update_other s.heap (Obj.mapSeq f) (Ne.symm F)).trans G) ⟨_,q⟩ ?_
 exact⟨hz,its',_,j,q⟩
theorem Inv.V6{its:List Value}{t':Nat}(I:Inv X pins σ H s)(j:Vals ys its)(hz:ys.length≤sizeLine) :
  Inv X pins σ (upd H s.heap.objs.size (.lst ys)) { s with heap:=s.heap.push { cls:=.type "list",data:=.seq its.toArray },toks:=t' } :=
 I.laid (fun _ _ q=>Heap.get?_push_of_some _ q) (f' _) ⟨hz,its,0,j,Heap.get?_push_size _ rfl⟩
theorem Inv.fresh(I:Inv X pins σ H s):H s.heap.objs.size=none:=I.hok.fresh (f' _)
theorem Inv.Br(I:Inv X pins σ H s)(j:H l=some (.lst xs)):xs.length≤sizeLine∧∃(its:List Value)(n:Nat),Vals xs its∧xs.length=its.length∧s.heap.get? l=some { cls:=.type "list",data:=.seq its.toArray n }:=by
 obtain⟨z,its,n,r,e⟩:=I.hok l _ j
 exact⟨z,its,n,r,r.length,e⟩
theorem yV{n:Nat}(h:n≤sizeLine):Builtin.List.listTooLong n=false:=by
 unfold Builtin.List.listTooLong
 exact j5 (by omega)
end
section
variable {X:Cx}
noncomputable def N_:V→List V→Hp→VK→Prop:=fun x vs H Q=>∃l xs y,x=.ref l∧vs=[y]∧H l=some (.lst xs)∧xs.length<sizeLine∧Q .non (upd H l (.lst (xs++[y])))
theorem gr:Vn X "list.append" N_:=by
 intro pins s σ H x vs v us Q I D J h
 obtain⟨l,xs,y,rfl,rfl,j,hz,q⟩:=h
 cases D
 obtain⟨u,rfl,G⟩:=J.one
 obtain⟨z,its,n,r,L,e⟩:=I.Br j
 refine call_meets F.slot_list_append ⟨_,e,rfl⟩ F.entry_list_append (F.args_list_append_2 _ _) (PySem.list_append l its.toArray n u (by rw[ib];omega)) ⟨e,?_⟩
 refine⟨.non,_,I.Pj (its':=its++[u]) j e (by simp) (r.append (.cons G .nil)) ?_,rfl,q⟩
 rw[gc,List.length_singleton]
 omega
noncomputable def N8:V→List V→Hp→VK→Prop:=fun x vs H Q=>∃l b xs zs,x=.ref l∧vs=[.ref b]∧H l=some (.lst xs)∧H b=some (.lst zs)∧xs.length+zs.length≤sizeLine∧Q .non (upd H l (.lst (xs++zs)))
theorem vL:Vn X "list.extend" N8:=by
 intro pins s σ H x vs v us Q I J Y h
 obtain⟨l,b,xs,zs,rfl,rfl,G,L,hz,q⟩:=h
 cases J
 obtain⟨u,rfl,S⟩:=Y.one
 cases S
 obtain⟨z,its,n,r,hl,e⟩:=I.Br G
 obtain⟨z2,j,U,O,Z,e2⟩:=I.Br L
 have hsz:its.toArray.size+j.toArray.size≤sizeLine:=by rw[ib,ib];omega
 have D:¬(!its.toArray.isEmpty&&Builtin.List.listTooLong (its.toArray.size+j.toArray.size))=true:=by
  rw[yV hsz,Bool.and_false]
  exact ip
 refine call_meets F.slot_list_extend ⟨_,e,rfl⟩ F.entry_list_extend (F.args_list_extend_2 _ _)
  (AutoSeq1.list_extend_list_list_0 l its.toArray n b j.toArray U D (by rw[ib];omega) (by omega)) ⟨e,e2,?_⟩
 refine⟨.non,_,I.Pj (its':=its++j) G e (by simp) (r.append O) ?_,rfl,q⟩
 rw[gc]
 omega
noncomputable def VJ:V→List V→Hp→VK→Prop:=fun x vs H Q=>∃l xs y,x=.ref l∧vs=[]∧H l=some (.lst xs)∧xs[xs.length-1]?=some y∧Q y (upd H l (.lst xs.dropLast))
theorem R_:Vn X "list.pop" VJ:=by
 intro pins s σ H x vs v us Q I J S h
 obtain⟨l,xs,y,rfl,rfl,G,Y,q⟩:=h
 cases J
 have j:=S.zero
 subst j
 obtain⟨z,its,n,r,O,e⟩:=I.Br G
 obtain⟨u,U,L⟩:=r.get Y
 have D:its.toArray[its.toArray.size-1]?=some u:=by
  show its.toArray[its.length-1]?=some u
  rw[←Array.getElem?_toList,←O]
  exact U
 refine call_meets F.slot_list_pop ⟨_,e,rfl⟩ F.entry_list_pop (F.args_list_pop_1 _) (MeetsSeq.list_pop_last l its.toArray n u D (by rw[ib];omega)) ⟨e,?_⟩
 refine⟨y,_,I.Pj (its':=its.dropLast) G e ?_ r.dropLast ?_,L,q⟩
 ·show its.toArray.eraseIdxIfInBounds (its.toArray.size-1)=its.dropLast.toArray
  rw[ib,List.eraseIdxIfInBounds_toArray,BV]
 ·rw[List.length_dropLast]
  omega
noncomputable def VM:R2:=fun x y H Q=>∃l b xs zs,x=.ref l∧y=.ref b∧H l=some (.lst xs)∧H b=some (.lst zs)∧xs.length+zs.length≤sizeLine∧∀p,H p=none→Q (.ref p) (upd H p (.lst (xs++zs)))
theorem xj:pL X (binaryOp .Add) VM:=by
 intro pins s σ H x y v u Q I F O h
 obtain⟨l,b,xs,zs,rfl,rfl,L,G,hz,q⟩:=h
 cases F
 cases O
 obtain⟨z,its,n,r,U,e⟩:=I.Br L
 obtain⟨Z,j,Y,J,S,e2⟩:=I.Br G
 refine PySem.P.add_list e e2 ?_ (by rw[ib,ib];omega)
 have D:its.toArray++j.toArray=(its++j).toArray:=by simp
 rw[D]
 exact⟨.ref _,_,I.V6 (t':=s.toks) (r.append J) (by rw[gc];omega),rfl,q _ I.fresh⟩
end
section
variable {prog:Program} {w:World} {A:Around} {E:Value→Shared→Prop} {s:Shared}
set_option maxRecDepth 100000 in
end
section
variable {X:Cx}
end
end L2
namespace L2
open PySem PySem.Spec PyProof.Rows
theorem Vals.ints:∀{ns:List Int}{us:List Value},Vals (ns.map V.int) us→IntsAre us ns
 | [],us,h=>by
  rw[List.map_nil]at h
  cases h
  exact IntsAre.nil
 | n::ns,us,h=>by
  rw[i6]at h
  cases h with
  | cons r t =>
   obtain⟨k,rfl⟩:=r
   exact IntsAre.cons n k (Vals.ints t)
theorem Vals.Uk{a:Addr}{us:List Value}(r:Vals [V.ref a] us):us=[Value.ref a]:=by
 cases r with
 | cons r t =>
  cases t
  cases r
  rfl
section
variable {prog:Program} {w:World} {A:Around} {E:Value→Shared→Prop} {s:Shared} {l:Addr} {its:List Value} {ns:List Int} {Q:Value→Shared→Prop}
end
section
variable {X:Cx}
end
section
variable {X:Cx}
theorem Eg{ys:List V}(f:ys.all fX=true){j:Nat}{z:V}(h:ys[j]?=some z):fX z=true:=j6.mp f z (j' h)
end
section
variable {X:Cx}
end
section
variable {X:Cx}
end
section
variable {X:Cx} {pins:List (Addr×Obj)} {σ:St} {H:Hp} {s:Shared}
end
section
variable {X:Cx}
end
end L2
namespace L2
open PySem PySem.Spec PyProof.Rows
noncomputable abbrev M5(h:Heap)(c:Addr)(v:Option Value):Prop:=h.IsCell c v
noncomputable def VD(scope sc:Scope):Scope :=
  { scope with names:=scope.names.map fun(n,k)=>if(k==.free&&sc.kind==.function&&sc.names.lookup n==some .cell)then(n,.cell)else(n,k) }
noncomputable def bV(cells:List (Str×Addr)):List (Str×NameKind)→List (Str×Addr)→List (Str×Addr)
 | [],acc=>acc
 | (n,k)::r,acc=>if k==.free then bV cells r ((n,(cells.lookup n).getD 0)::acc)else bV cells r acc
theorem pq(env:Env)(f:Str×NameKind→List (Str×Addr)→Sem (ForInStep (List (Str×Addr))))
  (D:∀n k c,f (n,k) c=if k==.free then(do let a ←cellOf env n;pure (.yield ((n,a)::c)))else pure (.yield c)) :
  ∀(names:List (Str×NameKind))(acc:List (Str×Addr)),(∀y∈names,y.2=.free→∃c,env.cells.lookup y.1=some c)→forIn names acc f=pure (bV env.cells names acc)
 | [],acc,_=>by rw[List.forIn_nil];rfl
 | (n,k)::r,acc,h=>by
  rw[List.forIn_cons,D]
  have F:=fun acc=>pq env f D r acc fun y G=>h y (am _ G)
  unfold bV
  by_cases j:(k==NameKind.free)=true
  ·rw[j4 j,j4 j]
   obtain⟨c,z⟩:=h (n,k) b' (by simpa using j)
   have e:cellOf env n=pure c:=by unfold cellOf;rw[z]
   rw[e]
   have e2:(env.cells.lookup n).getD 0=c:=by rw[z];rfl
   rw[e2]
   exact F _
  ·rw[js j,js j]
   exact F _
theorem uP{scope:Scope}{env:Env}(h:∀y∈scope.names,y.2=.free→∃c,env.cells.lookup y.1=some c):closureFor scope env=pure (bV env.cells scope.names []):=by
 simp only[closureFor]
 rw[pq env _ (fun n k c=>rfl) scope.names [] h]
 rfl
theorem mem_lookup{α:Type}:∀{l:List (Str×α)}{n:Str}{c:α},(n,c)∈l→∃z,l.lookup n=some z
 | (k,v)::r,n,c,h=>by
  rw[List.lookup_cons]
  cases j:n==k with
  | true=>exact⟨_,rfl⟩
  | false =>
   rcases hU.mp h with e | h
   ·cases e;simp at j
   ·exact mem_lookup h
theorem g8{cells:List (Str×Addr)}:∀{names:List (Str×NameKind)}{acc:List (Str×Addr)}{n:Str}{c:Addr},(n,c)∈bV cells names acc→(n,c)∈acc∨((n,.free)∈names∧c=(cells.lookup n).getD 0)
 | [],_,_,_,h=>.inl h
 | (m,k)::r,acc,n,c,h=>by
  unfold bV at h
  split at h
  ·rename_i j
   have j:k=.free:=by simpa using j
   rcases g8 h with h | ⟨h1,h2⟩
   ·rcases hU.mp h with e | h
    ·cases e;exact .inr ⟨j▸b',rfl⟩
    ·exact .inl h
   ·exact .inr ⟨am _ h1,h2⟩
  ·rcases g8 h with h | ⟨h1,h2⟩
   ·exact .inl h
   ·exact .inr ⟨am _ h1,h2⟩
theorem k_{cells:List (Str×Addr)}:∀{names:List (Str×NameKind)}{acc:List (Str×Addr)}{p:Str×Addr},p∈acc→p∈bV cells names acc
 | [],_,_,h=>h
 | (m,k)::r,acc,p,h=>by
  unfold bV
  split
  ·exact k_ (am _ h)
  ·exact k_ h
theorem kZ{cells:List (Str×Addr)}:∀{names:List (Str×NameKind)}{acc:List (Str×Addr)}{n:Str},(n,.free)∈names→(n,(cells.lookup n).getD 0)∈bV cells names acc
 | (m,k)::r,acc,n,h=>by
  unfold bV
  rcases hU.mp h with e | h
  ·cases e
   exact k_ b'
  ·split
   ·exact kZ h
   ·exact kZ h
theorem iV:∀{names:List (Str×NameKind)}{h:Heap}{acc:List (Str×Addr)}{x:Str}{c:Addr},(x,c)∈cellsFrom h.objs.size names acc →
  (x,c)∈acc∨((x,.cell)∈names∧h.objs.size≤c∧M5 (pushCells h names) c none)
 | [],_,_,_,_,h=>.inl h
 | (n,k)::r,h,acc,x,c,j=>by
  unfold cellsFrom at j
  unfold pushCells
  split at j
  ·rename_i z
   rw[j4 z]
   have z:k=.cell:=by simpa using z
   rw[←Heap.size_push h { cls:=.type "cell",data:=.cell none }]at j
   rcases iV j with j | ⟨h1,h2,D⟩
   ·rcases hU.mp j with e | j
    ·cases e
     exact .inr ⟨z▸b',f' _,_,pushCells_keeps r _ _ _ (Heap.get?_push_size _ rfl),rfl⟩
    ·exact .inl j
   ·rw[Heap.size_push]at h2
    exact .inr ⟨am _ h1,Nat.le_of_succ_le h2,D⟩
  ·rename_i z
   rw[js z]
   rcases iV j with j | ⟨h1,h2,D⟩
   ·exact .inl j
   ·exact .inr ⟨am _ h1,h2,D⟩
theorem mG:∀{names:List (Str×NameKind)}{n:Nat}{acc:List (Str×Addr)}{p:Str×Addr},p∈acc→p∈cellsFrom n names acc
 | [],_,_,_,h=>h
 | (m,k)::r,n,acc,p,h=>by
  unfold cellsFrom
  split
  ·exact mG (am _ h)
  ·exact mG h
theorem qp:∀{names:List (Str×NameKind)}{n:Nat}{acc:List (Str×Addr)}{x:Str},(x,.cell)∈names→∃c,(x,c)∈cellsFrom n names acc
 | (m,k)::r,n,acc,x,h=>by
  unfold cellsFrom
  rcases hU.mp h with e | h
  ·cases e
   exact⟨n,mG b'⟩
  ·split
   ·exact qp h
   ·exact qp h
theorem qm:∀{names:List (Str×NameKind)}{h:Heap}{acc:List (Str×Addr)}{x y:Str}{c:Addr},(∀p∈acc,p.2<h.objs.size)→(∀x y c,(x,c)∈acc→(y,c)∈acc→x=y) →
  (x,c)∈cellsFrom h.objs.size names acc→(y,c)∈cellsFrom h.objs.size names acc→x=y
 | [],_,_,_,_,_,_,hi,h1,h2=>hi _ _ _ h1 h2
 | (n,k)::r,h,acc,x,y,c,j,hi,h1,h2=>by
  unfold cellsFrom at h1 h2
  split at h1
  ·rename_i z
   rw[j4 z]at h2
   rw[←Heap.size_push h { cls:=.type "cell",data:=.cell none }]at h1 h2
   refine qm (h:=h.push _) (fun p D=>?_) (fun x y c a b=>?_) h1 h2
   ·rw[Heap.size_push]
    rcases hU.mp D with rfl | D
    ·exact Nat.lt_succ_self _
    ·exact Nat.lt_succ_of_lt (j p D)
   ·rcases hU.mp a with e | a<;>rcases hU.mp b with F | b
    ·cases e;cases F;rfl
    ·cases e;exact absurd (j _ b) (Nat.lt_irrefl _)
    ·cases F;exact absurd (j _ a) (Nat.lt_irrefl _)
    ·exact hi _ _ _ a b
  ·rename_i z
   rw[js z]at h2
   exact qm j hi h1 h2
theorem qK{M:Model}{A:Around}{E:Value→Shared→Prop}{s:Shared}{scope:Scope}{globals:Addr}{j:List (Str×Addr)}{qual:Str}{func:Option Addr}{code:Value}{around:Env}{builtins:Addr}{Q:Env→Shared→Prop}
    (h:Q (newEnv scope s.heap.objs.size globals (cellsFrom (s.heap.objs.size+1) scope.names j) qual func code (some around) builtins)
      { s with heap:=pushCells (s.heap.push { cls:=.type "dict",data:=.dict #[] }) scope.names }) :
    wpAny M A (newFunctionEnv scope globals j [] qual func code (some around) builtins) Q E s:=by
  simp only[newFunctionEnv,Option.isSome_some,if_true]
  refine wpAny_bind (wpAny_alloc ?_)
  refine wpAny_bind (wpAny_layCells _ (fun n k c=>rfl) scope.names j _ _ ?_)
  rw[show({ s with heap:=s.heap.push { cls:=.type "dict",data:=.dict #[] } }:Shared).heap.objs.size=s.heap.objs.size+1 from Heap.size_push ..]
  rw[List.forIn_nil]
  exact wpAny_bind (wpAny_pure (wpAny_pure h))
theorem kj{sc:Scope}:∀{names:List (Str×NameKind)}{x:Str}{k:NameKind},
  (names.map fun(n,k)=>if(k==NameKind.free&&sc.kind==.function&&sc.names.lookup n==some .cell)then(n,NameKind.cell)else(n,k)).lookup x=some k →
  ∃k',names.lookup x=some k'∧(k=k'∨(k'=.free∧k=.cell))
 | [],_,_,h=>by simp at h
 | (n,k₀)::r,x,k,h=>by
  have z:=@kj sc r x k
  have h':List.lookup x ((if(k₀==NameKind.free&&sc.kind==.function&&sc.names.lookup n==some .cell)=true then(n,NameKind.cell)else(n,k₀))::(r.map _))=some k:=h
  cases hx:x==n with
  | true =>
   simp only[List.lookup_cons,hx]
   by_cases j:(k₀==NameKind.free&&sc.kind==.function&&sc.names.lookup n==some .cell)=true
   ·rw[j4 j]at h'
    simp only[List.lookup_cons,hx]at h'
    cases h'
    simp only[ia,beq_iff_eq]at j
    exact⟨k₀,rfl,.inr ⟨j.1.1,rfl⟩⟩
   ·rw[js j]at h'
    simp only[List.lookup_cons,hx]at h'
    cases h'
    exact⟨_,rfl,.inl rfl⟩
  | false =>
   simp only[List.lookup_cons,hx]
   by_cases j:(k₀==NameKind.free&&sc.kind==.function&&sc.names.lookup n==some .cell)=true
   ·rw[j4 j]at h'
    simp only[List.lookup_cons,hx]at h'
    exact z h'
   ·rw[js j]at h'
    simp only[List.lookup_cons,hx]at h'
    exact z h'
structure wg (N:List Str) (sc scope:Scope) (own:List (Str×Nat)):Prop where
 kind:scope.kind=.function
 uniq:∀y∈scope.names,scope.names.lookup y.1=some y.2
 ix:∀p∈own,N[p.2]?=some p.1
 free:∀y∈scope.names,y.2=.free→sc.names.lookup y.1=some .cell∨sc.names.lookup y.1=some .free
 own:∀y∈scope.names,y.2=.local∨y.2=.cell→y.1∈own.map (·.1)∨y.1∉N
noncomputable def wipe(σ:St):List Nat→St
 | []=>σ
 | v::vs=>(wipe σ vs).set v none
theorem gO(σ:St):∀vs:List Nat,(wipe σ vs).length=σ.length
 | []=>rfl
 | v::vs=>by unfold wipe;rw[List.length_set,gO σ vs]
theorem lF{σ:St}{i:Nat}{x:V}:∀{vs:List Nat},(wipe σ vs)[i]?=some (some x)→σ[i]?=some (some x)∧i∉vs
 | [],h=>⟨h,by simp⟩
 | v::vs,h=>by
  unfold wipe at h
  by_cases hi:v=i
  ·subst hi
   by_cases j:v<(wipe σ vs).length
   ·rw[List.getElem?_set_self j]at h;cases h
   ·rw[List.getElem?_eq_none (by simpa using j)]at h;cases h
  ·rw[List.getElem?_set_ne hi]at h
   obtain⟨h1,h2⟩:=lF h
   exact⟨h1,by simp only[hU,not_or];exact⟨fun e=>hi e.symm,h2⟩⟩
noncomputable abbrev Cx.blk(X:Cx)(s:Shared)(H:Hp)(scope:Scope)(j:Env)(fp:List Addr):Cx:={ X with s_0:=s,H_0:=H,env:=j,outer:=X.stack,ex:=fp,fn:=fun x=>scope.names.lookup x==some .cell,pn:=[],xe:=fun _ _=>False }
section
variable {X:Cx} {pins:List (Addr×Obj)} {σ:St} {H:Hp} {s:Shared}
theorem qW{scope:Scope}{own:List (Str×Nat)}{fp:List Addr}(I:Inv X pins σ H s)(ok:wg X.N X.env.scope scope own)(hN:X.N.Nodup)(J:∀b∈fp,mZ X pins H b∧b<s.heap.objs.size) :
  Inv (X.blk s H scope (compEnvC scope (cellsFrom (s.heap.objs.size+1) scope.names (bV X.env.cells scope.names [])) s.heap.objs.size X.env) fp) [] (wipe σ (own.map (·.2))) H { s with heap:=pushCells (s.heap.push { cls:=.type "dict",data:=.dict #[] }) scope.names }:=by
 have aa:∀y∈scope.names,y.2=.free→∃c,X.env.cells.lookup y.1=some c:=fun y O e=>by
  rcases ok.free y O e with k | k
  ·exact I.ok.has _ (.inl k)
  ·exact I.ok.has _ (.inr k)
 generalize j:compEnvC scope (cellsFrom (s.heap.objs.size+1) scope.names (bV X.env.cells scope.names [])) s.heap.objs.size X.env=cenv
 have kp:∀b o,s.heap.get? b=some o→(pushCells (s.heap.push { cls:=.type "dict",data:=.dict #[] }) scope.names).get? b=some o:=fun b o e=>pushCells_keeps _ _ _ _ (Heap.get?_push_of_some _ e)
 have hL:cenv.locals=s.heap.objs.size:=by rw[←j];rfl
 have D:cenv.cells=cellsFrom (s.heap.objs.size+1) scope.names (bV X.env.cells scope.names []):=by rw[←j];rfl
 have Z:cenv.scope=VD scope X.env.scope:=by rw[←j];rfl
 rw[←Heap.size_push s.heap { cls:=.type "dict",data:=.dict #[] }]at D
 have cm:∀{y c},(y,c)∈bV X.env.cells scope.names []→X.env.cells.lookup y=some c∧c<s.heap.objs.size:=fun{y c} F=>by
  rcases g8 F with F | ⟨h1,rfl⟩
  ·cases F
  ·obtain⟨c,hc⟩:=aa _ h1 rfl
   rw[hc]
   obtain⟨w,z⟩:=I.cell _ _ hc
   exact⟨rfl,z.lt⟩
 have mem:∀{y c},cenv.cells.lookup y=some c→(X.env.cells.lookup y=some c∧c<s.heap.objs.size)∨(s.heap.objs.size+1≤c∧M5 (pushCells (s.heap.push { cls:=.type "dict",data:=.dict #[] }) scope.names) c none):=fun{y c} e=>by
  rw[D]at e
  rcases iV (PySem.mem_of_lookup e)with F | ⟨_,h2,h3⟩
  ·exact .inl (cm F)
  ·rw[Heap.size_push]at h2;exact .inr ⟨h2,h3⟩
 have look:∀{y},scope.names.lookup y=some .free→∃c,cenv.cells.lookup y=some c∧X.env.cells.lookup y=some c:=fun{y} hl=>by
  have O:(y,NameKind.free)∈scope.names:=PySem.mem_of_lookup hl
  obtain⟨c',G⟩:=mem_lookup (mG (names:=scope.names) (n:=(s.heap.push { cls:=.type "dict",data:=.dict #[] }).objs.size) (kZ (cells:=X.env.cells) (acc:=[]) O))
  rw[←D]at G
  refine⟨c',G,?_⟩
  rw[D]at G
  rcases iV (PySem.mem_of_lookup G)with F | ⟨h1,_,_⟩
  ·exact(cm F).1
  ·have:=ok.uniq _ h1
   rw[hl]at this;cases this
 have ag:(X.blk s H scope cenv fp).Ok:=by
  refine⟨I.ok.mod,by show cenv.scope.kind=_;rw[Z];exact ok.kind,by show cenv.globals=_;rw[←j];exact I.ok.glob,by show cenv.builtins=_;rw[←j];exact I.ok.blt,by show s.heap.objs.size≤cenv.locals;rw[hL];exact f' _,
   fun y z c e1 e2=>?_,fun y O=>?_,fun y c z e=>?_,I.ok.hd,I.ok.frames,.inl rfl,fun b S=>⟨?_,fun y c e z=>?_⟩,I.bs,iq I.ok.bsz I.sz,fun b o e S=>?_,fun b S z=>?_,I.stack,I.jc⟩
  ·have e1:cenv.cells.lookup y=some c:=e1
   have e2:cenv.cells.lookup z=some c:=e2
   rw[D]at e1 e2
   refine qm (fun p hp=>?_) (fun y z c a b=>I.ok.inj y z c (cm a).1 (cm b).1) (PySem.mem_of_lookup e1) (PySem.mem_of_lookup e2)
   rw[Heap.size_push]
   exact Nat.lt_succ_of_lt (cm (y:=p.1) (c:=p.2) hp).2
  ·show ∃c,cenv.cells.lookup y=some c
   have key:∀k,cenv.kindOf y=some k→(k=.cell∨k=.free)→∃c,cenv.cells.lookup y=some c:=fun k U Y=>by
    unfold Env.kindOf at U
    rw[Z]at U
    obtain⟨k',e,r⟩:=kj U
    have:k'=.cell∨k'=.free:=by
     rcases r with rfl | ⟨rfl,_⟩
     ·exact Y
     ·exact .inr rfl
    rcases this with rfl | rfl
    ·obtain⟨c,F⟩:=qp (n:=(s.heap.push { cls:=.type "dict",data:=.dict #[] }).objs.size) (acc:=bV X.env.cells scope.names []) (PySem.mem_of_lookup e)
     obtain⟨c',G⟩:=mem_lookup F
     exact⟨c',by rw[D];exact G⟩
    ·obtain⟨c,h1,_⟩:=look e
     exact⟨c,h1⟩
   rcases O with O | O
   ·exact key _ O (.inl rfl)
   ·exact key _ O (.inr rfl)
  ·have z:(scope.names.lookup y==some NameKind.cell)=true:=z
   have z:scope.names.lookup y=some .cell:=by simpa using z
   have e:cenv.cells.lookup y=some c:=e
   rw[D]at e
   rcases iV (PySem.mem_of_lookup e)with F | ⟨_,h2,_⟩
   ·rcases g8 F with F | ⟨h1,_⟩
    ·cases F
    ·have q:=ok.uniq _ h1
     rw[z]at q;cases q
   ·rw[Heap.size_push]at h2
    exact Nat.le_of_succ_le h2
  ·show b≠cenv.locals
   rw[hL];exact i4 (J b S).2
  ·have e:cenv.cells.lookup y=some c:=e
   rcases mem e with⟨h1,_⟩ | ⟨h1,_⟩
   ·exact(J b S).1.2.2.2.2.1 y c h1 z
   ·have h2:s.heap.objs.size+1≤b:=by rw[←z];exact h1
    exact absurd (ic (J b S).2 (Nat.le_of_succ_le h2)) (Nat.lt_irrefl _)
  ·rcases(J b S).1.2.2.2.1 with z | z
   ·exact I.ok.noex b o e z
   ·exact absurd (ic (Heap.lt_size e) (iq I.ok.bsz z)) (Nat.lt_irrefl _)
  ·rcases hU.mp (I.Aa b z)with z | z
   ·exact(J b S).1.2.1 z
   ·exact(J b S).1.2.2.1 z
 refine⟨ag,rfl,I.bare,Un.kept kp,⟨fun _=>none,?_,fun i y av e1 e2 e3=>?_⟩,fun y c e=>?_,?_,fun y c e=>?_,fun p hp=>?_,I.hok.kept kp,by rw[gO];exact I.len⟩
 ·show Heap.Ns _ cenv.locals _
  rw[hL]
  exact Heap.Ns.keeps (Heap.Ns.new ..) fun b o e=>pushCells_keeps _ _ _ _ e
 ·obtain⟨e2,ah⟩:=lF e2
  have L:scope.names.lookup y=some .free∧(cenv.kindOf y=some .cell∨cenv.kindOf y=some .free):=by
   have key:∀k,cenv.scope.names.lookup y=some k→k=.local∨k=.cell∨k=.free→scope.names.lookup y=some .free∧(cenv.kindOf y=some .cell∨cenv.kindOf y=some .free):=fun k U Y=>by
    have ae:=U
    rw[Z]at U
    obtain⟨k',e,r⟩:=kj U
    have no:¬(k'=.local∨k'=.cell):=fun hh=>by
     rcases ok.own _ (PySem.mem_of_lookup e) hh with G | G
     ·obtain⟨p,hp,af⟩:=List.mem_map.mp G
      have e3:=ok.ix p hp
      have:p.1=y:=af
      rw[this]at e3
      exact ah (List.mem_map.mpr ⟨p,hp,uB hN e3 e1⟩)
     ·exact G (j' e1)
    rcases r with rfl | ⟨rfl,rfl⟩
    ·rcases Y with rfl | rfl | rfl
     ·exact absurd (.inl rfl) no
     ·exact absurd (.inr rfl) no
     ·exact⟨e,.inr ae⟩
    ·exact⟨e,.inl ae⟩
   have e3:U7 cenv.scope y:=e3
   rcases e3 with e3 | e3 | e3
   ·exact key _ e3 (.inl rfl)
   ·exact key _ e3 (.inr (.inl rfl))
   ·exact key _ e3 (.inr (.inr rfl))
  obtain⟨m,hn,hl⟩:=I.loc
  have ac:U7 X.env.scope y:=(ok.free _ (PySem.mem_of_lookup L.1) rfl).elim (fun k=>.inr (.inl k)) (fun k=>.inr (.inr k))
  obtain⟨w,r,q⟩:=hl i y av e1 e2 ac
  refine⟨w,r,.inr ⟨L.2,?_⟩⟩
  obtain⟨c,h1,h2⟩:=look L.1
  rcases q with⟨k,_⟩ | ⟨_,c',G,z⟩
  ·have k:X.env.scope.names.lookup y=some .local:=k
   rcases ok.free _ (PySem.mem_of_lookup L.1) rfl with k' | k'<;>rw[show X.env.scope.names.lookup y=_ from k']at k<;>cases k
  ·rw[h2]at G;cases G
   exact⟨c,h1,z.keeps kp⟩
 ·have e:cenv.cells.lookup y=some c:=e
  rcases mem e with⟨h1,_⟩ | ⟨_,z⟩
  ·obtain⟨w,z⟩:=I.cell y c h1
   exact⟨w,z.keeps kp⟩
  ·exact⟨_,z⟩
 ·show H cenv.locals=none
  rw[hL];exact I.hok.fresh (f' _)
 ·have e:cenv.cells.lookup y=some c:=e
  rcases mem e with⟨h1,_⟩ | ⟨h1,_⟩
  ·exact I.freeC y c h1
  ·exact I.hok.fresh (Nat.le_of_succ_le h1)
 ·exact absurd (show p∈([]:List (Addr×Obj))++[]from hp) (by simp)
theorem MF{E:Value→Shared→Prop}{D:Addr}{xs:List V}{y:V}{v:Value}{Q:Value→Shared→Prop}(I:Inv X pins σ H s)(z:H D=some (.lst xs))(hz:xs.length<sizeLine)(r:RelV y v)
  (h:∀s',Inv X pins σ (upd H D (.lst (xs++[y]))) s'→Q .none s'):wpAny (model X.prog X.w) X.A (call (.builtin "list.append") [.ref D,v]) Q E s:=by
 obtain⟨G,its,n,F,e⟩:=I.hok D _ z
 have O:=F.length
 refine append_at (hsz:=by rw[ib];omega) e fun h' J j=>?_
 refine h { s with heap:=h' } (I.write (t':=s.toks) (by rw[z];trivial) (.inl rfl) (fun b u L q=>(J.2 b L).trans q) ⟨_,j⟩ ⟨by rw[gc];exact hz,its++[v],n+1,F.append (.cons r .nil),?_⟩)
 rw[j]
 simp
noncomputable def Tp(X:Cx)(j:List Expr)(t:TT):Prop :=
 ∀(pins:List (Addr×Obj))(s:Shared)(σ:St)(H:Hp)(Q:Bool→Hp→Prop),Inv X pins σ H s→t σ H Q →
  wpAny (model X.prog X.w) X.A (forIn j true fun c r=>if r=true then do let ok ←isTrue c X.env (eval c X.env);pure (ForInStep.yield ok)else pure (ForInStep.yield r)) (TP X pins σ Q) X.xe s
noncomputable def Vr:TT:=fun _ H Q=>Q true H
theorem lJ:Tp X [] Vr:=fun _ _ _ H _ I h=>wpAny_tests_nil ⟨H,I,h⟩
end
theorem wz{α:Type}{t:Sem α}{Q j:α→Shared→Prop}{M:Model}{A:Around}{E:Value→Shared→Prop}{s:Shared}(h:wpAny M A t Q (fun _ _=>False) s)(D:∀a s,Q a s→j a s):wpAny M A t j E s:=wpAny_mono h D fun _ _ z=>False.elim z
theorem o_{prog:Program}{w:World}{A:Around}{R:Result→Shared→Prop}{s:Shared}{elt target iter:Expr}{j:List Expr}{scope:Scope}{pos:Pos}{it acc:Value}{env:Env}(I:Nat→Shared→Prop)
  (turn:∀n s,I n s→wpAny (model prog w) A (pyNext it) (fun r s₁=>match r with
   | none=>R (.ok .next) s₁
   | some v=>wpAny (model prog w) A (letOwnedTupleGo target it v) (fun _ s₁'=>wpAny (model prog w) A (assign target env v) (fun _ s₂ =>
     wpAny (model prog w) A (forIn j true fun c r=>if r=true then do let ok ←isTrue c env (eval c env);pure (ForInStep.yield ok)else pure (ForInStep.yield r)) (fun ok s₃ =>
      if ok=true then wpAny (model prog w) A (eval elt env) (fun x s₄ =>
       wpAny (model prog w) A (call (.builtin "list.append") [acc,x]) (fun _ s₅=>∃m,m<n∧I m s₅) (notedBy (model prog w) A env fun e s'=>R (.error e) s') s₄) (notedBy (model prog w) A env fun e s'=>R (.error e) s') s₃
      else ∃m,m<n∧I m s₃) (notedBy (model prog w) A env fun e s'=>R (.error e) s') s₂) (notedBy (model prog w) A env fun e s'=>R (.error e) s') s₁') (notedBy (model prog w) A env fun e s'=>R (.error e) s') s₁) (notedBy (model prog w) A env fun e s'=>R (.error e) s') s)
  (n:Nat) (h:I n s) :
  codeAny (model prog w) A (.compLoop (.ListComp elt [⟨target,iter,j,0⟩] scope pos) 0 it acc env) R s:=by
 refine codeAny_loop rfl I (fun n s z=>?_) n h
 show wpAny _ A ((compTurn (.ListComp elt [⟨target,iter,j,0⟩] scope pos) 0 it acc env).onRaise (fun x=>do noteFrame x env;theTreesLotGoes x)) _ _ s
 refine wpAny_noted ?_
 rw[compTurn_list]
 refine wpAny_bind (wpAny_standAt (wpAny_bind (wpAny_mono (turn n s z) (fun r s₁ h₁=>?_) fun _ _ h'=>h')))
 cases r with
 | none=>exact wpAny_pure h₁
 | some v =>
  refine wpAny_bind (wpAny_mono h₁ (fun _ s₁' h₁'=>?_) fun _ _ h'=>h')
  refine wpAny_bind (wpAny_mono h₁' (fun _ s₂ h₂=>wpAny_bind (wpAny_mono h₂ (fun ok s₃ h₃=>?_) fun _ _ h'=>h')) fun _ _ h'=>h')
  cases ok with
  | false=>exact wpAny_pure ⟨rfl,h₃⟩
  | true =>
   exact wpAny_bind (wpAny_bind (wpAny_mono h₃ (fun x s₄ h₄=>wpAny_bind (wpAny_mono h₄ (fun _ s₅ h₅=>wpAny_pure (wpAny_pure ⟨rfl,h₅⟩)) fun _ _ h'=>h')) fun _ _ h'=>h'))
section
variable {X:Cx}
noncomputable def T5(O:TI)(g:TG)(L:TT)(te:TE)(vs:List Nat):TE:=fun σ H Q=>O σ H fun J H1=>∀D,H1 D=none→∃W:Nat→Nat→Hp→Prop,(∃m,W 0 m (upd H1 D (.lst [])))∧∀i m H,W i m H →
 (J.stop i H∧Q (.ref D) H)∨(J.go i H∧∃j:Hp→Prop,(∀H',j H'→∃G,G<m∧W (i+1) G H')∧∀x H',J.yld i H x H'→g x (wipe σ vs) H' fun σ2 H2=>wipe σ2 vs=wipe σ vs∧L σ2 H2 fun b F =>
  if b=true then te σ2 F fun y z=>∃acc,z D=some (.lst acc)∧acc.length<sizeLine∧j (upd z D (.lst (acc++[y])))else j F)
theorem Pn{pins:List (Addr×Obj)}{s:Shared}{σ:St}{H:Hp}{Q:VK}{elt tg iter:Expr}{O:List Expr}{scope:Scope}{own:List (Str×Nat)}{pos pos':Pos}{wi:TI}{g:TG}{tt:TT}{te:TE}{use:Option (Value→Sem Unit)}{Qf:Value→Shared→Prop}
  (hc:X.calm=true) (hN:X.N.Nodup) (I:Inv X pins σ H s) (hi:PI X tg iter wi) (ok:wg X.N X.env.scope scope own)
  (hg:∀(s:Shared)(H:Hp)(C:Addr)(cl:List (Str×Addr))(fp:List Addr),PG (X.blk s H scope (compEnvC scope cl C X.env) fp) tg g) (ht:∀(s:Shared)(H:Hp)(C:Addr)(cl:List (Str×Addr))(fp:List Addr),Tp (X.blk s H scope (compEnvC scope cl C X.env) fp) O tt)
  (he:∀(s:Shared)(H:Hp)(C:Addr)(cl:List (Str×Addr))(fp:List Addr),PE (X.blk s H scope (compEnvC scope cl C X.env) fp) elt te) (hs:∀x,foldedSetIterable iter X.env x=pure x)
  (h:T5 wi g tt te (own.map (·.2)) σ H Q)
  (aC:∀D C s' m H',Inv X pins σ H' s'→Q (.ref D) H'→s'.heap.Ns C m→mZ X pins H' C→compPost (model X.prog X.w) X.A X.xe use Qf (.ref D) C (.ok .next) s') :
  wpAny (model X.prog X.w) X.A (comprehension (.ListComp elt [⟨tg,iter,O,0⟩] scope pos) scope X.env pos' (newList []) false (eval iter X.env) use) Qf X.xe s:=by
 have aa:∀y∈scope.names,y.2=.free→∃c,X.env.cells.lookup y.1=some c:=fun y hy e=>by
  rcases ok.free y hy e with k | k
  ·exact I.ok.has _ (.inl k)
  ·exact I.ok.has _ (.inr k)
 refine wpAny_comprehension_free (use:=use) rfl hs (uP aa) ok.kind (fun y hy e=>by rw[ok.uniq y hy,e])
  (cG (hi pins s σ H _ I h) fun xv s1 hx=>cG hx fun a7 s2 h2=>?_)
 obtain⟨it,fp,tn,J,H2,e,I2,T,ar,f2,q⟩:=h2
 subst e
 refine wpAny_newObj_type (qK ?_) (by show 0≤sizeLine;decide)
 generalize hD:s2.heap.objs.size=D
 have aI:H2 D=none:=I2.hok.fresh (Nat.le_of_eq hD)
 obtain⟨W,⟨m0,w0⟩,turn⟩:=q D aI
 generalize ae:({ s2 with heap:=s2.heap.push { cls:=.type "list",data:=.seq ([]:List Value).toArray } }:Shared)=F
 have I3:Inv X pins σ (upd H2 D (.lst [])) F:=by
  rw[←ae]
  refine I2.laid (t':=s2.toks) (fun b o e=>Heap.get?_push_of_some _ e) (Nat.le_of_eq hD) ⟨Nat.zero_le _,[],0,.nil,?_⟩
  rw[←hD]
  exact Heap.get?_push_size _ rfl
 have h3:F.heap=s2.heap.push { cls:=.type "list",data:=.seq ([]:List Value).toArray }:=by rw[←ae]
 have sz:∀b∈fp,b<s2.heap.objs.size:=fun b G=>by
  obtain⟨o,e,_⟩:=T.obj _ _ ar b G
  exact Heap.lt_size e
 have f3:∀b∈fp,mZ X pins (upd H2 D (.lst [])) b∧b<F.heap.objs.size:=fun b G=>by
  have av:=sz b G
  refine⟨⟨?_,(f2 b G).2⟩,by rw[h3,Heap.size_push];exact Nat.lt_succ_of_lt av⟩
  rw[az (by rw[←hD];exact i4 av)]
  exact(f2 b G).1
 have ax:tn 0 F.heap:=T.keep _ _ _ ar fun b _ o e=>by rw[h3];exact Heap.get?_push_of_some _ e
 have I4:=qW I3 ok hN f3
 have pg:=hg F (upd H2 D (.lst [])) F.heap.objs.size (cellsFrom (F.heap.objs.size+1) scope.names (bV X.env.cells scope.names [])) fp
 have pt:=ht F (upd H2 D (.lst [])) F.heap.objs.size (cellsFrom (F.heap.objs.size+1) scope.names (bV X.env.cells scope.names [])) fp
 have pe:=he F (upd H2 D (.lst [])) F.heap.objs.size (cellsFrom (F.heap.objs.size+1) scope.names (bV X.env.cells scope.names [])) fp
 show codeAny _ _ (.compStart (.ListComp elt [⟨tg,iter,O,0⟩] scope pos) 0 (.ref it) (.ref D) (compEnvC scope (cellsFrom (F.heap.objs.size+1) scope.names (bV X.env.cells scope.names [])) F.heap.objs.size X.env)) (compPost (model X.prog X.w) X.A X.xe use Qf (.ref D) F.heap.objs.size) { F with heap:=pushCells (F.heap.push { cls:=.type "dict",data:=.dict #[] }) scope.names }
 have ac:∀b∈fp,(upd H2 D (.lst [])) b=none:=fun b G=>(f3 b G).1.1
 generalize a0:compEnvC scope (cellsFrom (F.heap.objs.size+1) scope.names (bV X.env.cells scope.names [])) F.heap.objs.size X.env=ce at I4 pg pt pe ⊢
 have cL:ce.locals=F.heap.objs.size:=by subst a0;rfl
 generalize a5:upd H2 D (.lst [])=H3 at I3 I4 pg pt pe w0 ac f3
 generalize aS:({ F with heap:=pushCells (F.heap.push { cls:=.type "dict",data:=.dict #[] }) scope.names }:Shared)=s4 at I4 ⊢
 have af:tn 0 s4.heap:=T.keep _ _ _ ax fun b _ o e=>by rw[←aS];exact pushCells_keeps _ _ _ _ (Heap.get?_push_of_some _ e)
 have L:∀{σ':St}{H':Hp}{s':Shared},Inv (X.blk F H3 scope ce fp) [] σ' H' s'→(∀b∈fp,H' b=none)→∀b∈fp,mZ (X.blk F H3 scope ce fp) [] H' b:=fun{σ' H' s'} I' hn b G =>
  ⟨hn b G,(I'.ok.exf b G).1,I'.ok.exfs b G,.inl G,fun x c e=>(I'.ok.exf b G).2 x c e,fun p hp=>absurd (show p∈([]:List (Addr×Obj))++[]from hp) (by simp)⟩
 have U:codeAny (model X.prog X.w) X.A (.compLoop (.ListComp elt [⟨tg,iter,O,0⟩] scope pos) 0 (.ref it) (.ref D) ce) (compPost (model X.prog X.w) X.A X.xe use Qf (.ref D) F.heap.objs.size) s4:=by
  refine o_ (fun n s'=>∃i H',Inv (X.blk F H3 scope ce fp) [] (wipe σ (own.map (·.2))) H' s'∧tn i s'.heap∧(∀b∈fp,H' b=none)∧W i n H') ?_ m0 ⟨0,H3,I4,af,ac,w0⟩
  rintro n s5 ⟨i,Y,I5,ah,n5,w5⟩
  rcases turn i n Y w5 with⟨stop,qq⟩ | ⟨go,Nx,aT,step⟩
  ·have td:=T.done (X.blk F H3 scope ce fp) rfl rfl rfl hc i [] s5 _ Y (fun _ _=>False) I5 (L I5 n5) ah stop
   refine wz td fun r s6 ⟨hr,I6⟩=>?_
   subst hr
   have I7:Inv X pins σ Y s6:=I3.call' (ch:=fp) I6.os I6.base I6.hok I6.bare fun b G=>⟨(f3 b G).1.2.2.2.1,(f3 b G).1.2.1,(f3 b G).1.2.2.2.2.1,(f3 b G).1.2.2.2.2.2⟩
   have nC:Y F.heap.objs.size=none:=by
    have z:Y ce.locals=none:=I6.free
    rw[cL]at z
    exact z
   obtain⟨m,hn,_⟩:=I6.loc
   have hn:s6.heap.Ns ce.locals m:=hn
   rw[cL]at hn
   exact aC D F.heap.objs.size s6 m Y I7 qq hn (I3.zr (f' _) nC)
  ·have ti:=T.item (X.blk F H3 scope ce fp) rfl rfl rfl hc i [] s5 _ Y (fun _ _=>False) I5 (L I5 n5) ah go
   refine wz ti fun r s6 ⟨u,hr,h6⟩=>?_
   subst hr
   refine wz h6 fun _ s7 hz=>?_
   obtain⟨x,H7,I7,r7,y7,Z,n7⟩:=hz
   have a3:=I7.pinned (L I7 n7) (T.obj _ _ Z)
   refine wz (pg _ s7 _ H7 x u _ a3 r7 (step x H7 y7)) fun _ s8 ⟨σ8,H8,I8,ag,q8⟩=>?_
   refine wz (pt _ s8 σ8 H8 _ I8 q8) fun b s9 ⟨H9,I9,q9⟩=>?_
   have fin:∀{s':Shared}{H':Hp},Inv (X.blk F H3 scope ce fp) ([]++pY fp s7.heap) σ8 H' s'→Nx H'→∃m,m<n∧∃i H',Inv (X.blk F H3 scope ce fp) [] (wipe σ (own.map (·.2))) H' s'∧tn i s'.heap∧(∀b∈fp,H' b=none)∧W i m H':=fun{s' H'} I' nx=>by
    obtain⟨m',hm,w'⟩:=aT H' nx
    have S:∀b∈fp,∀o,s7.heap.get? b=some o→s'.heap.get? b=some o∧H' b=none:=fun b G o e =>
     let z:=I'.pin (b,o) (List.mem_append_right _ (List.mem_append_right _ (jm G e)))
     ⟨z.1,z.2.1⟩
    have hl:(wipe σ (own.map (·.2))).length=σ8.length:=by rw[←ag,gO]
    refine⟨m',hm,i+1,H',(I'.jN (pins:=[])).weak hl (fun j v e=>?_),T.keep _ _ _ Z fun b G o e=>(S b G o e).1,fun b G=>?_,w'⟩
    ·rw[←ag]at e
     exact(lF e).1
    ·obtain⟨o,e,_⟩:=T.obj _ _ Z b G
     exact(S b G o e).2
   cases b with
   | false =>
    simp only[Bool.false_eq_true,if_false]at q9 ⊢
    exact fin I9 q9
   | true =>
    simp only[if_true]at q9 ⊢
    refine wz (pe _ s9 σ8 H9 _ I9 q9) fun z a4 hz=>?_
    obtain⟨yv,a6,aE,aw,acc,al,ai,nx⟩:=hz
    exact MF (X:=X.blk F H3 scope ce fp) aE al ai aw fun a8 ay=>fin ay nx
 exact codeAny_compStart_list U (T.self X.A 0 _ _ _ af U)
theorem yO{elt tg iter:Expr}{j:List Expr}{scope:Scope}{own:List (Str×Nat)}{pos:Pos}{F:TI}{g:TG}{z:TT}{te:TE}(hc:X.calm=true)(G:X.N.Nodup)(hi:PI X tg iter F)(ok:wg X.N X.env.scope scope own)
  (hg:∀(s:Shared)(H:Hp)(C:Addr)(cl:List (Str×Addr))(fp:List Addr),PG (X.blk s H scope (compEnvC scope cl C X.env) fp) tg g) (ht:∀(s:Shared)(H:Hp)(C:Addr)(cl:List (Str×Addr))(fp:List Addr),Tp (X.blk s H scope (compEnvC scope cl C X.env) fp) j z)
  (he:∀(s:Shared)(H:Hp)(C:Addr)(cl:List (Str×Addr))(fp:List Addr),PE (X.blk s H scope (compEnvC scope cl C X.env) fp) elt te) (U:∀x,foldedSetIterable iter X.env x=pure x:=by intro _;rfl) :
  PE X (.ListComp elt [⟨tg,iter,j,0⟩] scope pos) (T5 F g z te (own.map (·.2))):=by
 intro pins s σ H Q I h
 rw[eval_ListComp]
 refine Pn hc G I hi ok hg ht he U h fun D C s' m H' Z q J f=>⟨m,J,fun aa Y=>?_⟩
 obtain⟨S,f1,f2,L,f4,O⟩:=f
 exact⟨.ref D,H',Z.turned (t':=s'.toks) (fun b o hb e=>(Y.2 b hb).trans e) S f1 L f4 O,rfl,q⟩
theorem Np{elt:Expr}{F:List Comprehension}{scope:Scope}{pos py:Pos}{y:Str}{l:Nat}{env:Env}(j:env.scope.kind=.function)(J:env.scope.names.lookup y=some .local)(D:(py.line==pos.line)=true)
  (G:(scope.names.any fun(n,k)=>n==y&&(k==.local||k==.cell))=false):swapsWith (.ListComp elt F scope pos) (some (.Name y py)) l env=pure true:=by
 have z:env.kindOf y=some .local:=J
 have L:env.blockKind=.function:=by unfold Env.blockKind;rw[j];rfl
 unfold swapsWith
 simp only[L,z,G,Expr.pos,D]
 rfl
end
theorem lV{K:PySem.W.Frag}{a:Addr}{xs:List V}{g:TG}{O:TT}{te:TE}{vs:List Nat}{σ:St}{H1:Hp}{D:Addr}{J:Hp→Prop}(Pv:Nat→Hp→Prop)(h0:Pv 0 (upd H1 D (.lst [])))(U:∀i H,i≤xs.length→Pv i H→bZ K H a xs)
  (S:∀i x H,xs[i]?=some x→Pv i H→g x (wipe σ vs) H fun σ2 H2=>wipe σ2 vs=wipe σ vs∧O σ2 H2 fun b j =>
   if b=true then te σ2 j fun y z=>∃acc,z D=some (.lst acc)∧acc.length<sizeLine∧Pv (i+1) (upd z D (.lst (acc++[y])))else Pv (i+1) j) (hd:∀H,Pv xs.length H→J H) :
  ∃W:Nat→Nat→Hp→Prop,(∃m,W 0 m (upd H1 D (.lst [])))∧∀i m H,W i m H →
   ((QV K a).stop i H∧J H)∨((QV K a).go i H∧∃G:Hp→Prop,(∀H',G H'→∃L,L<m∧W (i+1) L H')∧∀x H',(QV K a).yld i H x H'→g x (wipe σ vs) H' fun σ2 H2=>wipe σ2 vs=wipe σ vs∧O σ2 H2 fun b j =>
    if b=true then te σ2 j fun y z=>∃acc,z D=some (.lst acc)∧acc.length<sizeLine∧G (upd z D (.lst (acc++[y])))else G j):=by
 refine⟨fun i m H=>m=xs.length-i∧i≤xs.length∧Pv i H,⟨xs.length,by simp,Nat.zero_le _,h0⟩,?_⟩
 rintro i m H ⟨rfl,hi,p⟩
 have q:=U i H hi p
 by_cases F:i<xs.length
 ·refine .inr ⟨⟨xs,xs[i],q,by simp[F]⟩,Pv (i+1),fun H' Y=>⟨xs.length-(i+1),by omega,rfl,F,Y⟩,fun x H' y=>?_⟩
  obtain⟨e,y⟩:=y
  subst e
  exact S i x _ (y xs q) p
 ·have e:i=xs.length:=by omega
  subst e
  exact .inl ⟨⟨xs,q,f' _⟩,hd H p⟩
noncomputable def U6(N:List Str)(sc scope:Scope)(own:List (Str×Nat)):Bool :=
 (match scope.kind with | .function=>true | _=>false)&&(scope.names.all fun y=>decide (scope.names.lookup y.1=some y.2))&&(own.all fun p=>decide (N[p.2]?=some p.1)) &&
  (scope.names.all fun y=>match y.2 with
   | .free=>(match sc.names.lookup y.1 with | some .cell=>true | some .free=>true | _=>false)
   | .local=>decide (y.1∈own.map (·.1))||decide (y.1∉N)
   | .cell=>decide (y.1∈own.map (·.1))||decide (y.1∉N)
   | _=>true)
theorem iY{N:List Str}{sc scope:Scope}{own:List (Str×Nat)}(h:U6 N sc scope own=true):wg N sc scope own:=by
 unfold U6 at h
 simp only[ia,j6,jI]at h
 obtain⟨⟨⟨h1,h2⟩,D⟩,z⟩:=h
 refine⟨?_,h2,D,fun y j e=>?_,fun y j e=>?_⟩
 ·split at h1
  ·assumption
  ·cases h1
 ·have q:=z y j
  simp only[e]at q
  split at q<;>first | exact .inl (by assumption) | exact .inr (by assumption) | cases q
 ·have q:=z y j
  rcases e with e | e<;>(simp only[e,Bool.or_eq_true,jI]at q;exact q)
end L2
namespace L2
open PySem PySem.Spec PyProof.Rows
section
variable {prog:Program} {w:World} {A:Around} {R:Result→Shared→Prop} {s:Shared} {elt t0 i0 t1 i1:Expr} {ifs0 ifs1:List Expr} {scope:Scope} {pos:Pos} {it acc:Value} {env:Env}
end
section
variable {X:Cx}
end
end L2
namespace L2
open PySem PySem.Spec PyProof.Rows
section
variable {κ:Type} [DecidableEq κ]
noncomputable def pN(kvs:List (κ×V))(k:κ):Option V:=(kvs.find? fun j=>decide (j.1=k)).map (·.2)
theorem HW{p:κ×V}{r:List (κ×V)}{k:κ}(e:p.1=k):pN (p::r) k=some p.2:=by simp[pN,List.find?_cons,e]
theorem HY{p:κ×V}{r:List (κ×V)}{k:κ}(e:¬p.1=k):pN (p::r) k=pN r k:=by simp[pN,List.find?_cons,e]
theorem n_.G6{o:Option V}{u:Option Value}(r:n_ o u):o.isSome=u.isSome:=by
 cases o with
 | none=>cases u with
  | none=>rfl
  | some _=>exact(show False from r).elim
 | some _=>cases u with
  | none=>exact(show False from r).elim
  | some _=>rfl
theorem KV.val{kvs:List (κ×V)}{vs:List (κ×Value)}(r:KV kvs vs)(k:κ):n_ (pN kvs k) (valueAt vs k):=by
 unfold KV at r
 induction r with
 | nil=>exact True.intro
 | @cons p q ps j h t F =>
  obtain⟨h1,h2⟩:=h
  by_cases e:p.1=k
  ·have D:q.1=k:=h1.symm.trans e
   have b:valueAt (q::j) k=some q.2:=by simp[valueAt,List.find?_cons,D]
   rw[HW e,b];exact h2
  ·have D:¬q.1=k:=fun z=>e (h1.trans z)
   have b:valueAt (q::j) k=valueAt j k:=by simp[valueAt,List.find?_cons,D]
   rw[HY e,b];exact F
end
theorem QM{P:Program}{w:World}{k:Key}{u:Value}(r:RelV (kV k) u):(cJ P w).is k u=true:=by
 cases k with
 | inl i=>obtain⟨t,e⟩:=(show ∃t,u=Value.int i t from r);subst e;exact kh P w i t
 | inr x=>obtain⟨t,e⟩:=(show ∃t,u=Value.str x t from r);subst e;exact j_ P w x t
section
variable {P:Program} {w:World} {H:Hp} {h:Heap} {a:Addr}
end
section
variable {X:Cx} {pins:List (Addr×Obj)} {σ:St} {H:Hp} {s:Shared} {a:Addr} {y v:V} {u r:Value} {o:Option V} {A:Around} {E:Value→Shared→Prop}
end
section
variable {X:Cx} {pins:List (Addr×Obj)} {σ:St} {H:Hp} {s:Shared} {a:Addr} {kvs:List (Key×V)} {k:Key} {u:Value} {A:Around} {E:Value→Shared→Prop}
end
noncomputable def Va(i:Expr):Prop:=∀z j,subscripted i false z j=operate [z,j] (getItem z j)
theorem Nr{prog:Program}{w:World}{A:Around}{E:Value→Shared→Prop}{s:Shared}{env:Env}{value slice:Expr}{pos:Pos}{T id:String}{Q:Value→Shared→Prop}
  (D:typeLookup (.type T) "__getitem__"=pure (some (.builtin id))) (z:Va slice)
  (h:wpAny (model prog w) A (eval value env) (fun o s₁=>wpAny (model prog w) A (eval slice env) (fun i s₂=>s₂.TypeIs o T∧wpAny (model prog w) A (getItem o i) Q E s₂) E s₁) E s) :
  wpAny (model prog w) A (eval (.Subscript value slice pos) env) Q E s:=by
 refine Subscript_ (wpAny_mono h (fun o s₁ h₁=>wpAny_mono h₁ (fun i s₂ h₂=>?_) fun _ _ x=>x) fun _ _ x=>x)
 obtain⟨j,h₂⟩:=h₂
 unfold subscriptTail
 refine wpAny_bind ?_
 rw[getitemInPython_of_ne j.not_modules]
 refine wpAny_bind (wpAny_specialOf j D ?_)
 have fin:wpAny (model prog w) A (subscripted slice false o i) (fun r s₃=>wpAny (model prog w) A (letTemporaryGo value o r>>=fun _=>pure r) Q E s₃) E s₂:=by
  rw[z o i]
  exact wpAny_operating (wpAny_mono h₂ (fun r s₃ h₃=>wpAny_bind (wpAny_letTemporaryGo (wpAny_pure h₃))) fun _ _ x=>x)
 first
  | exact wpAny_pure (wpAny_bind fin)
  | exact wpAny_bind (wpAny_pure (wpAny_bind fin))
  | exact wpAny_bind fin
section
variable {X:Cx} {o i e value:Expr} {pos pos' tpos:Pos} {td ty tv:TE}
end
section
variable {X:Cx} {pos:Pos}
end
section
variable {X:Cx} {pins:List (Addr×Obj)} {σ:St} {H:Hp} {s:Shared} {a:Addr} {y d:V} {u r:Value} {o:Option V} {A:Around} {E:Value→Shared→Prop}
end
section
variable {X:Cx} {o e f:Expr} {apos cpos:Pos} {td ty tx:TE}
end
section
variable {X:Cx} {pins:List (Addr×Obj)} {σ:St} {H:Hp} {s:Shared} {a:Addr} {kvs:List (Key×V)} {A:Around} {E:Value→Shared→Prop}
end
section
variable {X:Cx} {pins:List (Addr×Obj)} {σ:St} {H:Hp} {s:Shared} {a:Addr} {y:V} {u:Value} {A:Around} {E:Value→Shared→Prop}
end
end L2
namespace L2
open PySem PySem.Spec PyProof.Rows
section
variable {prog:Program} {w:World} {A:Around} {E:Value→Shared→Prop}
end
section
variable {X:Cx}
end
end L2
namespace L2
open PySem PySem.Spec PyProof.Rows
section
variable {X:Cx} {pins:List (Addr×Obj)} {σ:St} {H:Hp} {s:Shared} {h':Heap}
theorem Inv.Ni{t':Nat}{ch:List Addr}(I:Inv X pins σ H s)(k:∀b o,b∉ch→s.heap.get? b=some o→h'.get? b=some o)(D:∀b∈ch,mZ X pins H b):Inv X pins σ H { s with heap:=h',toks:=t' }:=by
 have F:∀b u,H b=some u→b∉ch:=fun b u e z=>by
  have q:=(D b z).1
  rw[q]at e;cases e
 refine I.step (g':=s.gens) (d':=s.drawn) (ch:=ch) (fun b G=>⟨(D b G).2.2.2.1,(D b G).2.1,(D b G).2.2.2.2.1,(D b G).2.2.2.2.2⟩) (fun b o _ _ j e _=>k b o j e) (fun b o _ _ j e _=>⟨o.slots,k b o j e⟩)
  (fun _ _ _ _ n=>n) (fun b o j e=>⟨o,k b o j e⟩) (fun _ _ e=>e) (fun _ _ _ e=>e) (fun b ps e=>⟨#[],by rw[e];simp⟩) (fun m J=>?_) (fun b u e=>?_) I.bare
 ·obtain⟨o,es,ep,L,r⟩:=J
  exact⟨o,es,ep,k _ o (fun z=>(D _ z).2.1 rfl) L,r⟩
 ·refine(I.hok b u e).stay (fun c v j q=>k c v ?_ q) (fun _ q=>q) fun _ _ q=>q
  rcases j with z | z
  ·rw[z];exact F b u e
  ·exact F c _ z
theorem Inv.Fl{t':Nat}{ch:List Addr}{T:Addr}{L:HO}(I:Inv X pins σ H s)(k:∀b o,b∉ch→s.heap.get? b=some o→h'.get? b=some o)(F:∀b∈ch,mZ X pins H b)(O:s.heap.objs.size≤T)
  (new:cV X.prog X.w (upd H T L) h' T L):Inv X pins σ (upd H T L) { s with heap:=h',toks:=t' }:=by
 have G:H T=none:=I.hok.fresh O
 have J:∀b u,H b=some u→b∉ch:=fun b u e z=>by
  have q:=(F b z).1
  rw[q]at e;cases e
 refine I.step (g':=s.gens) (d':=s.drawn) (ch:=ch) (fun b D=>⟨(F b D).2.2.2.1,(F b D).2.1,(F b D).2.2.2.2.1,(F b D).2.2.2.2.2⟩) (fun b o _ _ j e _=>k b o j e) (fun b o _ _ j e _=>⟨o.slots,k b o j e⟩)
  (fun b o _ e n=>?_) (fun b o j e=>⟨o,k b o j e⟩) (fun b xs e=>?_) (fun b o u e=>?_) (fun b ps e=>⟨#[],?_⟩) (fun m S=>?_) (fun b u e=>?_) I.bare
 ·rw[az (i4 (ic (Heap.lt_size e) O))];exact n
 ·rw[az (aH e G)];exact e
 ·rw[az (aH e G)];exact e
 ·rw[az (aH e G),e];simp
 ·obtain⟨o,es,ep,U,r⟩:=S
  exact⟨o,es,ep,k _ o (fun z=>(F _ z).2.1 rfl) U,r⟩
 ·by_cases D:b=T
  ·subst D
   rw[ak]at e
   cases e
   exact new
  ·rw[az D]at e
   refine(I.hok b u e).stay (fun c v j q=>k c v ?_ q) (fun c q=>by rw[az (aH q G)];exact q) fun c xs q=>by rw[az (aH q G)];exact q
   rcases j with z | z
   ·rw[z];exact J b u e
   ·exact J c _ z
end
section
variable {X:Cx}
end
section
variable {X:Cx} {tg:Expr}
end
section
variable {X:Cx} {tg:Expr}
end
section
variable {prog:Program} {w:World} {A:Around} {E:Value→Shared→Prop} {s:Shared}
end
theorem d_{α β:Type}{G:α→β→Prop}{l₁:List α}{l₂:List β}(h:Paired G l₁ l₂):∀{i:Nat}{a:α},l₁[i]?=some a→∃b,l₂[i]?=some b∧G a b:=by
 induction h with
 | nil=>intro i a e;simp at e
 | @cons a b l₁ l₂ r t z =>
  intro i D e
  cases i with
  | zero =>
   simp only[ke,Option.some.injEq]at e
   subst e
   exact⟨b,rfl,r⟩
  | succ j =>
   simp only[kc]at e ⊢
   exact z e
section
variable {X:Cx} {pins:List (Addr×Obj)} {σ:St} {H:Hp} {s:Shared} {d:Addr} {o:Obj}
end
section
variable {P:Program} {w:World} {K:PySem.W.Frag} {tg:Expr} {d:Addr} {o:Obj} {es:Array DictEntry} {ep:Nat}
end
section
variable {X:Cx} {tg e:Expr} {td:TE} {apos cpos:Pos}
end
theorem Hk:bootBuiltins "zip"=some (.type "zip"):=by decide +kernel
noncomputable def Vb(K:PySem.W.Frag)(a b:Addr):It :=
 ⟨fun i H=>∃(xs ys:List V)(x y:V),bZ K H a xs∧bZ K H b ys∧xs[i]?=some x∧ys[i]?=some y,
  fun i H v H'=>∃T x y,v=.ref T∧H T=none∧H'=upd H T (.tup [x,y])∧(∀xs,bZ K H a xs→xs[i]?=some x)∧∀ys,bZ K H b ys→ys[i]?=some y,
  fun i H=>∃xs ys:List V,bZ K H a xs∧bZ K H b ys∧(xs.length≤i∨ys.length≤i)⟩
theorem Ib{P:Program}{w:World}{K:PySem.W.Frag}{ae:List Expr}{kk:Nat}{tpos:Pos}{a b z TI TO i1 L:Addr}(D:ZipApart z TI TO i1 L a b) :
  Turn P w K (.Tuple ae kk tpos) (Vb K a b) [z,TI,TO,i1,L] z (fun i h=>IsZip h z TI TO .none∧IsPair h TI (.ref i1) (.ref L)∧(∃x y,IsPair h TO x y)∧h.IsListIter i1 a i∧h.IsListIter L b i) where
 mem:=by simp
 obj:=fun i h st c hc=>by
  obtain⟨hz,j,⟨x,y,G⟩,⟨o1,e1,_,d1⟩,⟨o2,e2,_,d2⟩⟩:=st
  have e':c=z∨c=TI∨c=TO∨c=i1∨c=L:=by simpa using hc
  rcases e' with q | q | q | q | q
  ·rw[q];exact⟨_,hz,fun v q=>nomatch q⟩
  ·rw[q];exact⟨_,j,fun v q=>nomatch q⟩
  ·rw[q];exact⟨_,G,fun v q=>nomatch q⟩
  ·rw[q];exact⟨o1,e1,fun v q=>by rw[d1]at q;cases q⟩
  ·rw[q];exact⟨o2,e2,fun v q=>by rw[d2]at q;cases q⟩
 keep:=fun i h h' st k=>by
  obtain⟨hz,j,⟨x,y,G⟩,h1,h2⟩:=st
  exact⟨k z (by simp) _ hz,k TI (by simp) _ j,⟨x,y,k TO (by simp) _ G⟩,h1.at fun o q=>k i1 (by simp) o q,h2.at fun o q=>k L (by simp) o q⟩
 item:=by
  intro X hP hw hK hc i pins s σ H E I hf st hg
  subst hP hw hK
  obtain⟨hz,j,⟨x0,y0,G⟩,h1,h2⟩:=st
  obtain⟨xs,ys,x,y,S,O,hx,hy⟩:=hg
  obtain⟨its,rv,p,_⟩:=I.list S
  obtain⟨U,Y,p2,_⟩:=I.list O
  obtain⟨u,hu,ru⟩:=rv.get hx
  obtain⟨u2,ai,ag⟩:=Y.get hy
  have af:z<s.heap.objs.size:=Heap.lt_size hz
  refine wpAny_pyNext_zip_item D hz j G h1 h2 p.isList p2.isList (x:=u) (y:=u2) (by simpa using hu) (by simpa using ai) fun h' z' aw ar ah hT hsz hk=>?_
  refine⟨_,rfl,wpAny_letOwnedTupleGo_zip (s:={ s with heap:=h' }) z' fun Z av sb=>?_⟩
  have al:Z.get? s.heap.objs.size=some { cls:=.type "tuple",data:=.seq #[u,u2] }:=(sb.2 _ (Nat.ne_of_gt af)).trans hT
  have new:cV X.prog X.w (upd H s.heap.objs.size (.tup [x,y])) Z s.heap.objs.size (.tup [x,y]) :=
   ⟨by show 2≤sizeLine;decide,[u,u2],.cons ru (.cons ag .nil),⟨_,al,rfl,_,rfl⟩⟩
  have I1:Inv X pins σ (upd H s.heap.objs.size (.tup [x,y])) { s with heap:=Z } :=
   I.Fl (t':=s.toks) (ch:=[z,TI,TO,i1,L]) (fun c o J q=>(sb.2 c (fun F=>J (by simp[F]))).trans (hk c o (fun F=>J (by simp[F])) (fun F=>J (by simp[F])) (fun F=>J (by simp[F])) (fun F=>J (by simp[F])) q)) hf (f' _) new
  refine⟨.ref s.heap.objs.size,_,I1,rfl,⟨_,x,y,rfl,I.hok.fresh (f' _),rfl,fun l hl=>by rw[I.uD hl S];exact hx,fun l hl=>by rw[I.uD hl O];exact hy⟩,⟨av,?_,⟨u,u2,?_⟩,?_,?_⟩,fun c ac=>?_⟩
  ·exact(sb.2 _ D.TIz).trans (hk _ _ D.TIz D.TITO D.TIi1 D.TIi2 j)
  ·exact(sb.2 _ D.TOz).trans aw
  ·exact ar.at fun o q=>(sb.2 _ D.i1z).trans q
  ·exact ah.at fun o q=>(sb.2 _ D.i2z).trans q
  ·have ax:c<s.heap.objs.size:=by
    have e':c=z∨c=TI∨c=TO∨c=i1∨c=L:=by simpa using ac
    rcases e' with q | q | q | q | q
    ·rw[q];exact af
    ·rw[q];exact Heap.lt_size j
    ·rw[q];exact Heap.lt_size G
    ·rw[q];obtain⟨_,e1,_⟩:=h1;exact Heap.lt_size e1
    ·rw[q];obtain⟨_,e2,_⟩:=h2;exact Heap.lt_size e2
   rw[az (i4 ax)]
   exact(hf c ac).1
 done:=by
  intro X hP hw hK hc i pins s σ H E I hf st hg
  subst hP hw hK
  obtain⟨hz,j,⟨x0,y0,G⟩,h1,h2⟩:=st
  obtain⟨xs,ys,S,O,aa⟩:=hg
  obtain⟨its,rv,p,_⟩:=I.list S
  obtain⟨U,Y,p2,_⟩:=I.list O
  have l1:=rv.length
  have l2:=Y.length
  have he:its.toArray[i]?=none∨U.toArray[i]?=none:=by
   rcases aa with q | q
   ·exact .inl (by simp;omega)
   ·exact .inr (by simp;omega)
  exact wpAny_pyNext_zip_end (I.ok.hd hc) D hz j G h1 h2 p.isList p2.isList he fun h' hk=>⟨rfl,I.Ni (t':=s.toks) (ch:=[z,TI,TO,i1,L]) (fun c o J q =>
   hk c o (fun F=>J (by simp[F])) (fun F=>J (by simp[F])) (fun F=>J (by simp[F])) (fun F=>J (by simp[F])) q) hf⟩
 self:=fun A i s Q E st h=>wpAny_pyIter_zip st.1 h
noncomputable def Wc(K:PySem.W.Frag)(ta:TA):TI:=fun σ H R=>ta σ H fun vs H1=>∃a b xs ys,vs=[.ref a,.ref b]∧bZ K H1 a xs∧bZ K H1 b ys∧R (Vb K a b) H1
theorem Rx{X:Cx}{e e2:Expr}{ta:TA}{p pos tpos:Pos}{F:List Expr}{kk:Nat}(hg:Gl X "zip")(hm:X.mg "zip"=none)(ha:PA X [e,e2] ta)
  (hs:starEach [e,e2] X.env=(false,eval e X.env)::starEach [e2] X.env:=by rfl) (L:(backTo pos (starEach [e2] X.env)).any (·.1)=false:=by rfl) :
  PI X (.Tuple F kk tpos) (.Call (.Name "zip" p) [e,e2] [] pos) (Wc X.K ta):=by
 intro pins s σ H R I h
 refine Call_ (qe I hg hm Hk (PyProof.Rows.callWith_type1 (cG (ha pos pins s σ H _ I h) fun us s1 ⟨vs,H1,j,r1,q1⟩=>?_) hs L))
 obtain⟨a,b,xs,ys,ex,U,J,q⟩:=q1
 subst ex
 cases r1 with
 | cons r O =>
  cases O with
  | cons r' O =>
   cases O
   cases r
   cases r'
   obtain⟨its,rv,p1,_⟩:=j.list U
   obtain⟨Z,aa,p2,_⟩:=j.list J
   have la:a<s1.heap.objs.size:=p1.lt
   have lb:b<s1.heap.objs.size:=p2.lt
   refine call_zip_2 p1.isList p2.isList fun h' hz S Y h1 h2 hsz hk=>wpAny_pyIter_zip hz ?_
   have I2:Inv X pins σ H1 { s1 with heap:=h' }:=j.kept (t':=s1.toks) hk
   refine⟨s1.heap.objs.size+4,[s1.heap.objs.size+4,s1.heap.objs.size+2,s1.heap.objs.size+3,s1.heap.objs.size,s1.heap.objs.size+1],_,_,H1,rfl,I2,Ib (PySem.W.ktu_apart s1.heap.objs.size a b la lb),⟨hz,S,⟨_,_,Y⟩,h1,h2⟩,fun c G=>?_,q⟩
   have e':c=s1.heap.objs.size+4∨c=s1.heap.objs.size+2∨c=s1.heap.objs.size+3∨c=s1.heap.objs.size∨c=s1.heap.objs.size+1:=by simpa using G
   have D:s1.heap.objs.size≤c:=by
    rcases e' with z | z | z | z | z
    ·rw[z];exact Nat.le_add_right _ _
    ·rw[z];exact Nat.le_add_right _ _
    ·rw[z];exact Nat.le_add_right _ _
    ·rw[z];exact f' _
    ·rw[z];exact Nat.le_add_right _ _
   exact j.zr D (j.hok.fresh D)
end L2
section
namespace Bits
open PySem PyProof.Rows
end Bits
end
section
namespace TL
open PySem PySem.Builtin PySem.Builtin.Str PySem.StrLaws
noncomputable abbrev tl(x:Str):List Nat:=x.cps.toList
theorem iH(x y:Str):tl (x++y)=tl x++tl y:=by
 show(x++y).cps.toList=_
 rw[Str.cps_append,Array.toList_append]
theorem Tv(l:List Nat):tl ⟨l.toArray⟩=l:=rfl
theorem yr(s:String):tl (Str.ofString s)=s.toList.map Char.toNat:=PyProof.Rows.signs_ofString s
noncomputable def zg(S:List Nat):List (List Nat)→List Nat
 | []=>[]
 | [p]=>p
 | p::q::r=>p++(S++zg S (q::r))
theorem De(y:Str):∀parts:List Str,tl (Str.join y parts)=zg (tl y) (parts.map tl)
 | []=>rfl
 | [_]=>rfl
 | x::z::r=>by
  show tl (x++y++Str.join y (z::r))=tl x++(tl y++zg (tl y) ((z::r).map tl))
  rw[iH,iH,De y (z::r),im]
theorem Pz(y:Str)(parts:List Str):Txt.join y parts=Str.join y parts:=glued_eq_join y parts
end TL
end
namespace L2
open PySem PySem.Spec PyProof.Rows
theorem O_{n:Nat}(h:n≤16777216):Builtin.Str.tooLong n=false:=by
 have e:(2:Nat) ^ 24=16777216:=by decide
 unfold Builtin.Str.tooLong sizeLine
 exact j5 (by omega)
theorem jb:∀{ys:List Str}{us:List Value},Vals (ys.map V.str) us→StrsAre us ys
 | [],_,.nil=>.nil
 | y::ys,_,.cons r t=>by
  obtain⟨k,rfl⟩:=r
  exact .cons y k (jb t)
section
variable {X:Cx} {pins:List (Addr×Obj)} {σ:St} {H:Hp} {s:Shared} {Q:VK}
end
section
variable {X:Cx}
theorem Pg:Hy X "str.join" (fun x xs H Q=>∃a p,∃ys:List Str,x=.str a∧xs=[.ref p]∧(bZ X.K H p (ys.map V.str)∨cR X.K H p (ys.map V.str)) ∧
  (ys.map (·.length)).sum+ys.length*a.length≤16777216∧Q (.str (Txt.join a ys)) H):=by
 intro pins s σ H x xs v us Q I D z h
 obtain⟨a,p,ys,rfl,rfl,j,hz,h⟩:=h
 obtain⟨t,rfl⟩:=D
 cases z with
 | cons J z =>
  cases z
  cases J
  rcases j with j | j
  ·obtain⟨its,r,⟨o,n,F,G,_,hd⟩,_⟩:=I.list j
   exact PyProof.Rows.join_list (items:=its.toArray) ⟨o,F,G,n,hd⟩ (by rw[List.toList_toArray];exact jb r) hz fun t' k=>⟨.str _,H,I.tok k,⟨t',rfl⟩,h⟩
  ·obtain⟨its,r,L,_⟩:=I.tuple j
   exact PyProof.Rows.join_tuple (items:=its.toArray) L (by rw[List.toList_toArray];exact jb r) hz fun t' k=>⟨.str _,H,I.tok k,⟨t',rfl⟩,h⟩
theorem Ws{id:String}{C:Str→Prop}{g:Str→V} (rule:∀(a:Str)(t:Tok)(s:Shared)(Q:Value→Shared→Prop),C a→(∀(u:Value)(k:Nat),RelV (g a) u→Q u { s with toks:=k }) →
  wpAny (model X.prog X.w) X.A (call (.builtin id) [.str a t]) Q X.xe s):Hy X id (fun x xs H Q=>∃a,x=.str a∧xs=[]∧C a∧Q (g a) H):=by
 intro pins s σ H x xs v us Q I j z h
 obtain⟨a,rfl,rfl,D,h⟩:=h
 obtain⟨t,rfl⟩:=j
 cases z
 exact rule a t s _ D fun u k r=>⟨g a,H,I.tok k,r,h⟩
theorem Le:Hy X "str.upper" (fun x xs H Q=>∃a,x=.str a∧xs=[]∧a.length≤5592405∧Q (.str (Txt.upper a)) H) :=
 Ws (C:=fun a=>a.length≤5592405) (g:=fun a=>.str (Txt.upper a)) fun a _ s _ j h =>
  PySem.SC.upper (O_ (by have h1:a.length≤5592405:=j;have:=PyProof.Rows.len_upper a;omega)) (h _ (s.toks+1) ⟨_,rfl⟩)
theorem Bm:Hy X "str.isdigit" (fun x xs H Q=>∃a,x=.str a∧xs=[]∧True∧Q (.bl (Txt.isdigit a)) H) :=
 Ws (C:=fun _=>True) (g:=fun a=>.bl (Txt.isdigit a)) fun _ _ s _ _ h=>PySem.SC.isdigit (h _ s.toks rfl)
theorem Wr{id:String}{g:Str→Str→V} (rule:∀(a b:Str)(t u:Tok)(s:Shared)(Q:Value→Shared→Prop),(∀(v:Value)(k:Nat),RelV (g a b) v→Q v { s with toks:=k }) →
  wpAny (model X.prog X.w) X.A (call (.builtin id) [.str a t,.str b u]) Q X.xe s):Hy X id (fun x xs H Q=>∃a b,x=.str a∧xs=[.str b]∧Q (g a b) H):=by
 intro pins s σ H x xs v us Q I z j h
 obtain⟨a,b,rfl,rfl,h⟩:=h
 obtain⟨t,rfl⟩:=z
 cases j with
 | cons D j =>
  cases j
  obtain⟨u,rfl⟩:=D
  exact rule a b t u s _ fun v k r=>⟨g a b,H,I.tok k,r,h⟩
theorem vf:Hy X "str.startswith" (fun x xs H Q=>∃a b,x=.str a∧xs=[.str b]∧Q (.bl (Txt.startswith a b)) H) :=
 Wr (g:=fun a b=>.bl (Txt.startswith a b)) fun _ _ _ _ s _ h=>PySem.SC.startswith (h _ s.toks rfl)
theorem yX:Hy X "str.endswith" (fun x xs H Q=>∃a b,x=.str a∧xs=[.str b]∧Q (.bl (Txt.endswith a b)) H) :=
 Wr (g:=fun a b=>.bl (Txt.endswith a b)) fun _ _ _ _ s _ h=>PySem.SC.endswith (h _ s.toks rfl)
theorem xU:nu X (.type "int") (fun xs H Q=>∃a n,xs=[.str a]∧PySem.intText? a=some n∧a.length≤640∧Q (.int n) H):=by
 intro pins s σ H xs us Q I j h
 obtain⟨a,n,rfl,F,D,h⟩:=h
 cases j with
 | cons z j =>
  cases j
  obtain⟨t,rfl⟩:=z
  exact PySem.W.KIN.call_text F D ⟨.int n,H,I.tok _,⟨_,rfl⟩,h⟩
end
section
variable {X:Cx} {o e:Expr} {to te:TE}
end
end L2
namespace L2
open PySem PySem.Spec PyProof.Rows
section
variable {X:Cx}
end
theorem IsPart.raw{v:Value}{o:Option Int}(p:IsPart v o):∃l:Option (Int×Tok),v=partValue l∧l.map (·.1)=o:=by
 cases p with
 | none=>exact⟨none,rfl,rfl⟩
 | int i t=>exact⟨some (i,t),rfl,rfl⟩
noncomputable def zF(n d:Nat):Option Int→Int
 | none=>(d:Int)
 | some i=>max 0 (min (if i<0 then i+(n:Int)else i) (n:Int))
theorem zE(n d:Nat)(o:Option Int):zF n d o=((HT.gj n d o:Nat):Int):=by
 cases o with
 | none=>rfl
 | some v =>
  show max (0:Int) (min (if v<0 then v+(n:Int)else v) (n:Int))=(((if v<0 then(v+(n:Int)).toNat else min v.toNat n):Nat):Int)
  by_cases j:v<0
  ·simp only[j4 j]
   omega
  ·simp only[js j]
   omega
theorem FZ(a b:Option Int)(n:Nat):Builtin.Str.strSliceIndices a b 1 n=sliceRange (zF n 0 a) (zF n n b) 1:=by
 have h1:((1:Int)>0)=True:=by simp
 cases a<;>cases b<;>first
  | rfl
  | (simp only[Builtin.Str.strSliceIndices,zF,h1,if_true];rfl)
  | simp[Builtin.Str.strSliceIndices,zF]
theorem Vx(a b:Option Int)(n:Nat):Builtin.Str.strSliceIndices a b 1 n=(List.range (HT.gj n n b-HT.gj n 0 a)).map (fun k=>HT.gj n 0 a+k):=by
 rw[FZ,zE,zE]
 generalize HT.gj n 0 a=p
 generalize HT.gj n n b=q
 simp only[sliceRange,show((1:Int)>0)=True from by simp,if_true]
 by_cases j:(p:Int)<q
 ·have e3:(((q:Int)-p+1-1) / 1).toNat=q-p:=by first | omega | (simp;done) | (simp;omega)
  simp only[j,if_true,e3]
  refine List.map_congr_left fun k _=>?_
  omega
 ·have:q-p=0:=by omega
  simp[j,this]
noncomputable def Hi(z:Str)(lo hi:Option Int):Str :=
 ⟨((z.cps.toList.drop (HT.gj z.length 0 lo)).take (HT.gj z.length z.length hi-HT.gj z.length 0 lo)).toArray⟩
theorem m9(z:Str)(lo hi:Option Int):PySem.StrLaws.sliceText z lo hi=Hi z lo hi:=by
 have h1:HT.gj z.length 0 lo≤z.length:=HT.JV _ _ (Nat.zero_le _) _
 have h2:HT.gj z.length z.length hi≤z.length:=HT.JV _ _ (f' _) _
 have D:HT.gj z.length 0 lo≤max (HT.gj z.length 0 lo) (HT.gj z.length z.length hi):=Nat.le_max_left _ _
 have j:max (HT.gj z.length 0 lo) (HT.gj z.length z.length hi)≤z.length:=Nat.max_le.mpr ⟨h1,h2⟩
 have hd:max (HT.gj z.length 0 lo) (HT.gj z.length z.length hi)-HT.gj z.length 0 lo=HT.gj z.length z.length hi-HT.gj z.length 0 lo:=by omega
 have e:Builtin.Str.strSliceIndices lo hi 1 z.length =
   Builtin.Str.strSliceIndices (some ((HT.gj z.length 0 lo:Nat):Int)) (some ((max (HT.gj z.length 0 lo) (HT.gj z.length z.length hi):Nat):Int)) 1 z.length:=by
  rw[PySem.StrLaws.strSliceIndices_plain D j,hd,Vx]
 have e2:PySem.StrLaws.sliceText z lo hi =
   PySem.StrLaws.sliceText z (some ((HT.gj z.length 0 lo:Nat):Int)) (some ((max (HT.gj z.length 0 lo) (HT.gj z.length z.length hi):Nat):Int)):=by
  unfold PySem.StrLaws.sliceText
  rw[e]
 rw[e2,PySem.StrLaws.sliceText_nat z D j,hd]
 rfl
theorem kW(z:Str)(lo hi:Option Int):(Hi z lo hi).length≤z.length:=by
 show(((z.cps.toList.drop (HT.gj z.length 0 lo)).take (HT.gj z.length z.length hi-HT.gj z.length 0 lo)).toArray).size≤z.cps.size
 rw[ib,ij,kg,Array.length_toList]
 omega
noncomputable def VG:V→Option Int→Option Int→Hp→VK→Prop:=fun x lo hi H Q=>∃z,x=.str z∧z.length≤sizeLine∧Q (.str (Hi z lo hi)) H
theorem Rh{X:Cx}:Wn X VG:=by
 intro pins s σ H x v U Y lo hi sl Q I L S pl O h
 obtain⟨z,rfl,hz,q⟩:=h
 obtain⟨t,rfl⟩:=L
 obtain⟨os,D,J,G⟩:=S
 obtain⟨l,rfl,rfl⟩:=IsPart.raw pl
 obtain⟨u,rfl,rfl⟩:=IsPart.raw O
 refine⟨"str",_,F.slot_str_getitem.lookup,typeIs_str _ _ _,?_⟩
 refine wpAny_getItem_str_slice (l:=l) (u:=u) (st:=none) ⟨os,D,J,G⟩ rfl ?_
 have j:(PySem.StrLaws.sliceText z (l.map (·.1)) (u.map (·.1))).length≤sizeLine:=by
  rw[m9]
  exact iq (kW z _ _) hz
 rw[←m9]at q
 unfold PySem.StrLaws.sliceText at q j
 show Made.post (if((1:Int)==1&&(Builtin.Str.strSliceIndices (l.map (·.1)) (u.map (·.1)) 1 z.length).length==z.length)=true then Made.val (.str z t)
  else Made.str ⟨((Builtin.Str.strSliceIndices (l.map (·.1)) (u.map (·.1)) 1 z.length).filterMap (z.cps[·]?)).toArray⟩) (EP X pins σ Q) s
 by_cases c:((1:Int)==1&&(Builtin.Str.strSliceIndices (l.map (·.1)) (u.map (·.1)) 1 z.length).length==z.length)=true
 ·rw[j4 c]at q ⊢
  exact⟨.str z,H,I,⟨t,rfl⟩,q⟩
 ·rw[js c]at q j ⊢
  exact⟨j,.str _,H,I.tok _,⟨_,rfl⟩,q⟩
end L2
namespace Att
open PySem PySem.W PySem.Calls PyProof.Rows
section
variable {prog:Program} {w:World} {A:Around} {E:Value→Shared→Prop} {s:Shared} {K:Frag}
end
end Att
namespace L2
open PySem PySem.Spec PyProof.Rows
end L2
namespace L2
open PySem PySem.Spec PyProof.Rows
end L2
namespace L2
open PySem PySem.Spec PyProof.Rows
noncomputable def inClass(s:Stmt)(j:Nat):Stmt:=match s with
 | .ClassDef _ _ _ body _ _ _ _ _ _ _=>body.getD j (.Pass ⟨0,0,0,0⟩)
 | _=>.Pass ⟨0,0,0,0⟩
noncomputable def mD(s:Stmt):Arguments:=match s with
 | .FunctionDef _ a _ _ _ _ _ _ _ _=>a
 | _=>{ posonlyargs:=[],args:=[],vararg:=none,kwonlyargs:=[],kw_defaults:=[],kwarg:=none,defaults:=[] }
noncomputable def eO(s:Stmt):List Stmt:=match s with
 | .FunctionDef _ _ b _ _ _ _ _ _ _=>b
 | _=>[]
noncomputable def aD(s:Stmt):Scope:=match s with
 | .FunctionDef _ _ _ _ _ _ sc _ _ _=>sc
 | _=>{ kind:=.function,names:=[],isGenerator:=false,isCoroutine:=false }
noncomputable abbrev E0:XK:=fun _ _ _=>False
structure fc (K:PySem.W.Frag) (x qual:Str) (st:Stmt) (f:Addr) (fd:FuncData):Prop where
 ex:∃(oc:Value)(od:Option Addr)(kV doc pm:Value)(an:Option Addr)(cdv ct:Value)(osl:Array (Option Value)),
  fd=PySem.W.fnOf x qual (mD st) (eO st) (aD st) .none kV doc pm an cdv ct∧K.lookup f=some ⟨oc,od,.func fd,osl⟩∧PySem.W.codeIn K cdv qual=true
 kp:PySem.W.keepIn K (.ref f)=true
section
variable {P:Program} {w:World} {K:PySem.W.Frag} {mg:Str→Option Value} {base:Heap}
theorem fc.binds{x qual:Str}{st:Stmt}{f:Addr}{fd:FuncData}{ps:List Str}(F:fc K x qual st f fd)
  (h:∀(kV doc pm:Value)(an:Option Addr)(cdv ct:Value)(us:List Value),us.length=ps.length→bindArgs (PySem.W.fnOf x qual (mD st) (eO st) (aD st) .none kV doc pm an cdv ct) ⟨us,[]⟩=pure (ps.zip us)):Binds K fd ps []:=by
 obtain⟨oc,od,kV,doc,pm,an,cdv,ct,osl,rfl,z,j⟩:=F.ex
 exact .all (h kV doc pm an cdv ct)
theorem qi{x qual:Str}{st:Stmt}{f:Addr}{oc:Value}{od an:Option Addr}{osl:Array (Option Value)}{kV doc pm cdv ct:Value}(l:K.lookup f=some ⟨oc,od,.func (PySem.W.fnOf x qual (mD st) (eO st) (aD st) .none kV doc pm an cdv ct),osl⟩)
  (c:PySem.W.codeIn K cdv qual=true) (k:PySem.W.keepIn K (.ref f)=true):fc K x qual st f (PySem.W.fnOf x qual (mD st) (eO st) (aD st) .none kV doc pm an cdv ct):=⟨⟨oc,od,kV,doc,pm,an,cdv,ct,osl,rfl,l,c⟩,k⟩
end
theorem vP{A:Around}{k:Nat}(j:bH k A):A.units+1<cLine:=iO (Nat.add_le_add_left (by decide:1≤64) _) j.units
section
variable {X:Cx}
theorem pv(i:Nat){x:Str}{pos:Pos}(z:X.N[i]?=some x:=by rfl)(D:U7 X.env.scope x:=by first | exact Or.inl rfl | exact Or.inr (Or.inl rfl) | exact Or.inr (Or.inr rfl))(hd:(x==("__debug__" : Str))=false:=by decide)
  (j:(x==("__classdict__" : Str))=false:=by decide):PE X (.Name x pos) (pP i):=Km z D hd j
end
theorem aR{A B:Prop}(h:B):if false=true then A else B:=by
 rw[js ip]
 exact h
theorem bh{A B:Prop}(h:A):if true=true then A else B:=by
 rw[j4 rfl]
 exact h
theorem fQ{c A B:Prop}[Decidable c](h1:c→A)(h2:¬c→B):if c then A else B:=by
 by_cases h:c
 ·rw[j4 h]
  exact h1 h
 ·rw[js h]
  exact h2 h
noncomputable def aA(H H':Hp):Prop:=∀b o,H b=some o→H' b=some o
theorem aA.refl(H:Hp):aA H H:=fun _ _ h=>h
theorem aA.trans{H H1 H2:Hp}(a:aA H H1)(b:aA H1 H2):aA H H2:=fun c o h=>b c o (a c o h)
section
variable {κ:Type} [DecidableEq κ]
end
theorem at_of{xs:List V}{z:Int}{j:Nat}{v:V}(e:z=(j:Int))(h:xs[j]?=some v):qY xs z=some v:=by
 rw[e]
 exact jx h
end L2
end
section
set_option maxHeartbeats 2000000
namespace XL
open PySem PySem.Spec PyProof.Rows L2
noncomputable def MT(h:Heap)(e:Addr)(c:Value)(dd:Option Addr)(tb:Value):Prop :=
 ∃j vs,h.get? e=some j∧j.cls=c∧j.dict=dd∧j.data=.fields vs∧vs[1]?=some tb
noncomputable def zP(h:Heap)(T:Addr)(fl:Value):Prop:=∃j ts,h.get? T=some j∧j.data=.fields ts∧ts[3]?=some fl
theorem Hh(o:Obj)(f:Array Value→Array Value):(o.mapFields f).dict=o.dict:=by
 obtain⟨c,d,j,s⟩:=o
 cases j<;>rfl
section
variable {M:Model} {A:Around} {E:Value→Shared→Prop} {s:Shared}
structure M_ (base:Heap) (l:List Env) (e:Addr) (c:Value) (dd:Option Addr) (fl:Value) (h h':Heap):Prop where
 st:base.StaysIn h'
 fr:h'.FunFrames base l
 ex:∃T,MT h' e c dd (.ref T)∧T≠e∧base.get? T=none∧zP h' T fl∧h.objs.size≤T
 sl:h.UpToSlots h'
theorem uN{base:Heap}{env:Env}{outer:List Env}{L e:Addr}{c hd:Value}{dd:Option Addr}{tb:Value}{b:Bool}{Q:Unit→Shared→Prop}
  (ae:A.frames=some (env::outer)) (hl:s.heap.FunFrames base (env::outer)) (hf:env.frame=some L) (hx:MT s.heap e c dd tb) (ah:base.StaysIn s.heap) (af:base.get? e=none)
  (h:∀h',M_ base (env::outer) e c dd (rawInt L) s.heap h'→Q () { s with heap:=h' }) :
  wpAny M A (do let a ←frameOf env;let pl ←entryPlaceOf L b;let x ←EntryCells.newEntry hd a .none (rawInt L) .none pl;setField (.ref e) 1 x) Q E s:=by
 obtain⟨oe,vs,he,hc,ag,D,h1⟩:=hx
 have Y:1<vs.size:=(Array.getElem?_eq_some_iff.mp h1).1
 have ac:e∉(env::outer).filterMap (·.frame):=by
  intro hm
  obtain⟨_,o,ho,j⟩:=hl.mem hm
  rw[he]at ho
  cases ho
  exact j vs D
 refine wpAny_bind (wpAny_frameOf_fun ae hl hf fun g1 S=>?_)
 refine wpAny_bind (wpAny_entryPlaceOf fun pl aa=>?_)
 unfold EntryCells.newEntry newFields
 refine wpAny_bind (wpAny_newObj_type ?_ (aa.sizeOk5 _ _ _ _ _))
 have e1:g1.get? e=some oe:=(S.2.1 e ac).trans he
 have Z:base.StaysIn g1:=fun q o G=>(S.2.1 q fun hm=>by rw[(hl.mem hm).1]at G;cases G).trans (ah q o G)
 generalize ht:({ cls:=.type "traceback",dict:=none,data:=.fields ([hd,.ref L,.none,rawInt L,.none]++(if pl.isEmpty then List.replicate 6 Value.none else pl)).toArray }:Obj)=tbo
 have e2:=Heap.get?_push_of_some (h:=g1) tbo e1
 refine wpAny_setField e2 D Y (h _ ?_)
 have U:g1.objs.size≠e:=Nat.ne_of_gt (Heap.lt_size e1)
 have d3:=Obj.data_mapFields D (·.setIfInBounds 1 (Value.ref g1.objs.size))
 have e3:=Heap.get?_update_self (Obj.mapFields (·.setIfInBounds 1 (Value.ref g1.objs.size))) e2 (Obj.isFreed_of_fields d3)
 have t3:=(Heap.get?_update_other (g1.push tbo) (Obj.mapFields (·.setIfInBounds 1 (Value.ref g1.objs.size))) (Ne.symm U)).trans (Heap.get?_push_size g1 (by rw[←ht];rfl))
 have keep:∀q o,q≠e→g1.get? q=some o→((g1.push tbo).update e (Obj.mapFields (·.setIfInBounds 1 (Value.ref g1.objs.size)))).get? q=some o:=fun q o G F=>by
  rw[Heap.get?_update_other _ _ (Ne.symm G)]
  exact Heap.get?_push_of_some _ F
 have J:∀q o,s.heap.get? q=some o→(∀ws,o.data≠.fields ws)→q≠e:=fun q o F j z=>by
  rw[z,he]at F
  cases F
  exact j vs D
 refine⟨fun q o G=>keep q o (fun z=>by rw[z,af]at G;cases G) (Z q o G),hl.of_keeps fun q o F j=>?_,?_,fun q o F j=>?_⟩
 ·obtain⟨sl,O⟩:=S.2.2 q o F
  exact⟨_,keep q _ (J q o F j) O,rfl⟩
 ·refine⟨g1.objs.size,⟨_,_,e3,(Obj.cls_mapFields _ _).trans hc,(Hh _ _).trans ag,d3,by simp[Y]⟩,U,Z.fresh,⟨_,_,t3,by rw[←ht],?_⟩,?_⟩
  ·simp
  ·exact Nat.le_of_eq S.1.symm
 ·obtain⟨sl,O⟩:=S.2.2 q o F
  exact⟨sl,keep q _ (J q o F j) O⟩
end
end XL
end
section
set_option maxHeartbeats 2000000
namespace XL
open PySem PySem.Spec PyProof.Rows L2
noncomputable def Loose(base h:Heap)(e:Addr)(c:Value)(dd:Option Addr):Prop :=
 ∃tb,MT h e c dd tb∧(tb=.none∨∃T,tb=.ref T∧T≠e∧base.get? T=none∧zP h T .none)
section
variable {M:Model} {A:Around} {E:Value→Shared→Prop} {s:Shared}
theorem xn{base:Heap}{env:Env}{outer:List Env}{L e:Addr}{c:Value}{dd:Option Addr}{Q:Unit→Shared→Prop}
  (U:A.frames=some (env::outer)) (hl:s.heap.FunFrames base (env::outer)) (hf:env.frame=some L) (hx:Loose base s.heap e c dd) (Z:base.StaysIn s.heap) (Y:base.get? e=none)
  (h:∀h',M_ base (env::outer) e c dd (rawInt L) s.heap h'→Q () { s with heap:=h' }):wpAny M A (noteFrame (.ref e) env) Q E s:=by
 obtain⟨tb,hx,ht⟩:=hx
 have af:=hx
 obtain⟨oe,vs,he,hc,ae,J,h1⟩:=hx
 unfold noteFrame
 simp only[hf]
 refine wpAny_bind (wpAny_field he J h1 ?_)
 rcases ht with rfl | ⟨T,rfl,ac,aa,oT,ts,hT,O,h3⟩
 ·rw[js (by decide)]
  exact uN U hl hf af Z Y h
 ·rw[j4 (show(Value.ref T != Value.none)=true from by simp)]
  refine wpAny_bind (wpAny_field hT O h3 ?_)
  rw[js (show ¬((Value.none==rawInt L)=true)from by simp[rawInt])]
  refine wpAny_bind (wpAny_setField hT O (Array.getElem?_eq_some_iff.mp h3).1 ?_)
  generalize hg:s.heap.update T (Obj.mapFields (·.setIfInBounds 3 Value.none))=g
  have F:∀b,b≠T→g.get? b=s.heap.get? b:=fun b j=>by rw[←hg];exact Heap.get?_update_other _ _ (Ne.symm j)
  have G:∀b o,s.heap.get? b=some o→(∀ws,o.data≠.fields ws)→b≠T:=fun b o j D z=>by
   rw[z,hT]at j
   cases j
   exact D ts O
  refine uN (s:={ s with heap:=g }) U (hl.of_keeps fun b o j D=>⟨o,(F b (G b o j D)).trans j,rfl⟩) hf ⟨oe,vs,(F e (Ne.symm ac)).trans he,hc,ae,J,h1⟩
   (fun b o j=>(F b fun z=>by rw[z,aa]at j;cases j).trans (Z b o j)) Y fun h' S=>h h' ⟨S.st,S.fr,?_,fun b o j D=>S.sl b o ((F b (G b o j D)).trans j) D⟩
  obtain⟨T',x1,x2,x3,x4,x5⟩:=S.ex
  refine⟨T',x1,x2,x3,x4,?_⟩
  have sz:g.objs.size=s.heap.objs.size:=by rw[←hg];exact Heap.size_after_update _ _ _
  exact iq (Nat.le_of_eq sz.symm) x5
theorem l_{base h0:Heap}{l:List Env}{e:Addr}{c fl:Value}{dd:Option Addr}{Q:Unit→Shared→Prop}(S:M_ base l e c dd fl h0 s.heap)
  (h:∀h',M_ base l e c dd .none h0 h'→Q () { s with heap:=h' }):wpAny M A (setFlight (.ref e) none) Q E s:=by
 obtain⟨T,⟨oe,vs,he,hc,aa,L,h1⟩,Z,U,⟨oT,ts,hT,F,h3⟩,hn⟩:=S.ex
 have Y:3<ts.size:=(Array.getElem?_eq_some_iff.mp h3).1
 unfold setFlight
 refine wpAny_bind (wpAny_field he L h1 ?_)
 rw[j4 (show(Value.ref T != Value.none)=true from by simp)]
 refine wpAny_setField hT F Y (h _ ?_)
 generalize hg:s.heap.update T (Obj.mapFields (·.setIfInBounds 3 ((none:Option Addr).elim Value.none fun f=>rawInt f)))=g
 have G:∀b,b≠T→g.get? b=s.heap.get? b:=fun b j=>by rw[←hg];exact Heap.get?_update_other _ _ (Ne.symm j)
 have J:∀b o,s.heap.get? b=some o→(∀ws,o.data≠.fields ws)→b≠T:=fun b o j D z=>by
  rw[z,hT]at j
  cases j
  exact D ts F
 have gT:=Heap.get?_update_self (Obj.mapFields (·.setIfInBounds 3 ((none:Option Addr).elim Value.none fun f=>rawInt f))) hT (Obj.isFreed_of_fields (Obj.data_mapFields F _))
 rw[hg]at gT
 refine⟨fun b o j=>(G b fun z=>by rw[z,U]at j;cases j).trans (S.st b o j),S.fr.of_keeps fun b o j D=>⟨o,(G b (J b o j D)).trans j,rfl⟩,
  ⟨T,⟨oe,vs,(G e (Ne.symm Z)).trans he,hc,aa,L,h1⟩,Z,U,⟨_,_,gT,Obj.data_mapFields F _,by simp[Y]⟩,hn⟩,fun b o j D=>?_⟩
 obtain⟨sl,O⟩:=S.sl b o j D
 exact⟨sl,(G b (J b _ O D)).trans O⟩
theorem Bs{base:Heap}{env:Env}{outer:List Env}{L e:Addr}{c:Value}{dd:Option Addr}{Q:Unit→Shared→Prop}
  (j:A.frames=some (env::outer)) (G:s.heap.FunFrames base (env::outer)) (J:env.frame=some L) (hx:Loose base s.heap e c dd) (F:base.StaysIn s.heap) (z:base.get? e=none)
  (h:∀h',M_ base (env::outer) e c dd .none s.heap h'→Q () { s with heap:=h' }):wpAny M A (leaving env (.ref e)) Q E s:=by
 unfold leaving
 refine wpAny_bind (xn j G J hx F z fun h' S=>?_)
 exact l_ (s:={ s with heap:=h' }) S fun D O=>h D O
end
end XL
end
section
set_option maxHeartbeats 2000000
namespace XL
open PySem PySem.Spec PyProof.Rows L2
noncomputable def Mf(e C d:Addr):HO:=.ext fun h=>∃j vs,h.get? e=some j∧j.cls=.ref C∧j.dict=some d∧j.data=.fields vs
structure zW (n:Nat) (H:Hp) (h:Heap) (e C d:Addr):Prop where
 ex:H e=some (Mf e C d)
 new:n≤e
 tb:∃tb,MT h e (.ref C) (some d) tb∧(tb=.none∨∃T,tb=.ref T∧T≠e∧n≤T∧H T=none∧zP h T .none)
noncomputable def aW(P:Program)(w:World):Ff:=fun outer H s E v s'=>∃e C d H',v=.ref e∧s'.os=s.os∧AllBare s'.gens∧Un (frs outer) [] H H' s.heap s'.heap∧mY P w H' s'.heap∧zW s.heap.objs.size H' s'.heap e C d∧E (.ref C) (some d) H'
section
variable {P:Program} {w:World} {H:Hp} {h h':Heap} {n:Nat} {e C d:Addr}
theorem zW.grow(F:zW n H h e C d){m:Nat}(j:m≤n):zW m H h e C d:=by
 obtain⟨x,y,tb,G,J⟩:=F
 refine⟨x,iq j y,tb,G,?_⟩
 rcases J with z | ⟨T,a1,a2,L,D⟩
 ·exact .inl z
 ·exact .inr ⟨T,a1,a2,iq j L,D⟩
theorem zW.ground(F:zW n H h e C d)(fs:List Addr)(D:∀b∈fs,H b=none) :
  ∃as:List Addr,(∀b∈fs,b∈as)∧e∈as∧(∀b∈as,b=e∨H b=none)∧(∀b∈as,b∈fs∨n≤b)∧Loose (PySem.W.hideAll h as) h e (.ref C) (some d)∧(∀b∈as,b=e∨b∈fs∨∃o vs,h.get? b=some o∧o.data=.fields vs):=by
 obtain⟨x,y,tb,J,S⟩:=F
 rcases S with z | ⟨T,a1,a2,O,L,G⟩
 ·refine⟨e::fs,fun b j=>.tail _ j,.head _,fun b j=>?_,fun b j=>?_,⟨tb,J,.inl z⟩,fun b j=>?_⟩
  ·exact(hU.mp j).elim .inl fun q=>.inr (D b q)
  ·exact(hU.mp j).elim (fun q=>.inr (q▸y)) .inl
  ·exact(hU.mp j).elim .inl fun q=>.inr (.inl q)
 ·refine⟨e::T::fs,fun b j=>.tail _ (.tail _ j),.head _,fun b j=>?_,fun b j=>?_,⟨tb,J,.inr ⟨T,a1,a2,PySem.W.hideAll_none _ (.tail _ (.head _)),G⟩⟩,fun b j=>?_⟩
  ·rcases hU.mp j with q | q
   ·exact .inl q
   ·exact .inr ((hU.mp q).elim (fun z=>z▸L) (D b))
  ·rcases hU.mp j with q | q
   ·exact .inr (q▸y)
   ·exact(hU.mp q).elim (fun z=>.inr (z▸O)) .inl
  ·rcases hU.mp j with q | q
   ·exact .inl q
   ·refine .inr ((hU.mp q).elim (fun z=>.inr ?_) .inl)
    obtain⟨o,ts,t1,t2,_⟩:=G
    exact⟨o,ts,z▸t1,t2⟩
theorem kE{as:List Addr}{l:List Env}{fl:Value}(ok:mY P w H h)(hx:H e=some (Mf e C d))(has:∀b∈as,b=e∨H b=none)
  (S:M_ (PySem.W.hideAll h as) l e (.ref C) (some d) fl h h'):mY P w H h':=by
 intro a u G
 by_cases F:a=e
 ·subst F
  rw[hx]at G
  cases G
  obtain⟨T,⟨J,vs,x1,x2,x3,x4,_⟩,_⟩:=S.ex
  exact⟨⟨J,vs,x1,x2,x3,x4⟩,⟨J,x1⟩,fun h1 h2 ⟨o,O,U,L⟩ k=>⟨o,O,k _ U,L⟩⟩
 ·refine(ok a u G).stay (fun b v j q=>S.st b v (PySem.W.hideAll_get _ q fun z=>?_)) (fun _ q=>q) fun _ _ q=>q
  rcases has b z with D | D
  ·rcases j with j | j
   ·exact F (j.symm.trans D)
   ·rw[D,hx]at j
    cases j
  ·rcases j with j | j
   ·rw[j,G]at D
    cases D
   ·rw[j]at D
    cases D
theorem zW.wA{as:List Addr}{l:List Env}(F:zW n H h e C d)(ok:mY P w H h)(z:n≤h.objs.size)(S:M_ (PySem.W.hideAll h as) l e (.ref C) (some d) .none h h'):zW n H h' e C d:=by
 refine⟨F.ex,F.new,?_⟩
 obtain⟨T,x1,x2,x3,x4,j⟩:=S.ex
 exact⟨.ref T,x1,.inr ⟨T,rfl,x2,iq z j,ok.fresh j,x4⟩⟩
end
section
variable {X:Cx} {pins:List (Addr×Obj)} {σ:L2.St} {H:Hp} {s:Shared} {e C d:Addr}
theorem tW{h':Heap}{as:List Addr}{l:List Env}{fl:Value}{fs:List Addr}{H0:Hp}{h0 h:Heap}(u:Un fs [] H0 H h0 h)(S:M_ (PySem.W.hideAll h as) l e (.ref C) (some d) fl h h')
  (D:∀b∈fs,∀o vs,h.get? b=some o→o.data≠.fields vs) (has:∀b o,h0.get? b=some o→b∈as→b∈fs) (hex:∀b∈fs,∃o',h'.get? b=some o'):Un fs [] H0 H h0 h' where
 keep:=fun b o q n j hx=>S.st b o (PySem.W.hideAll_get _ (u.keep b o q n j hx) fun z=>j (has b o q z))
 slot:=fun b o q n j hx=>by
  obtain⟨sl,e1⟩:=u.slot b o q n j hx
  obtain⟨F,e2⟩:=S.sl b _ e1 fun vs z=>D b j _ vs e1 z
  exact⟨F,e2⟩
 free:=u.free
 there:=fun b o q hx=>by
  obtain⟨o',e1⟩:=u.there b o q hx
  by_cases j:b∈as
  ·exact hex b (has b o q j)
  ·exact⟨o',S.st b o' (PySem.W.hideAll_get _ e1 j)⟩
 tups:=u.tups
 frzs:=u.frzs
 tbls:=u.tbls
theorem leaves{P:Program}{w:World}{K:PySem.W.Frag}{mg:Str→Option Value}{base:Heap}{N:List Str}{qual:Str}{scope:Scope}{f:Addr}{cd:Value}{A:Around}{outer:List Env}{s0:Shared}{H0:Hp}{E:XK}
  (I:Inv (eU (aW P w) P w K mg base N qual scope f cd A outer s0 H0 E) pins σ H s) (F:zW s0.heap.objs.size H s.heap e C d) (hE:E (.ref C) (some d) H) :
  (eU (aW P w) P w K mg base N qual scope f cd A outer s0 H0 E).xe (.ref e) s:=by
 have J:=I.ok.frames
 have G:=I.stack
 have sub:=I.jc
 obtain⟨as,g1,g2,g3,Z,Y,g6⟩:=F.ground (frs (envOfC qual scope s0.heap.objs.size f cd::outer)) sub
 have hn:s0.heap.objs.size≤s.heap.objs.size:=I.sz
 refine Bs (L:=s0.heap.objs.size) J (PySem.W.funFrames_hide G fun env he b j=>g1 b (List.mem_filterMap.mpr ⟨env,he,j⟩)) rfl Y (fun b o q=>PySem.W.of_hideAll _ q) (PySem.W.hideAll_none _ g2) fun h' S=>?_
 have U:∀b∈frs outer,b∈frs (envOfC qual scope s0.heap.objs.size f cd::outer):=fun b j=>by
  unfold frs at j ⊢
  rw[List.filterMap_cons]
  exact am _ j
 refine⟨e,C,d,H,rfl,I.os,I.bare,?_,kE I.hok F.ex g3 S,F.wA I.hok hn S,hE⟩
 refine tW (l:=envOfC qual scope s0.heap.objs.size f cd::outer) I.base S (fun b j o vs ho hd=>?_) (fun b o q j=>?_) fun b j=>?_
 ·obtain⟨_,o',D,O⟩:=G.mem (U b j)
  rw[ho]at D
  cases D
  exact O vs hd
 ·rcases Z b j with z | z
  ·unfold frs at z
   rw[List.filterMap_cons]at z
   rcases hU.mp z with z | z
   ·exact absurd (Heap.lt_size q) (by rw[z];exact Nat.lt_irrefl _)
   ·exact z
  ·exact absurd (Heap.lt_size q) (Nat.not_lt.mpr z)
 ·obtain⟨_,o',D,_⟩:=S.fr.mem (U b j)
  exact⟨o',D⟩
theorem passes{P:Program}{w:World}{K:PySem.W.Frag}{mg:Str→Option Value}{base:Heap}{N:List Str}{qual:Str}{scope:Scope}{f:Addr}{cd:Value}{A:Around}{outer:List Env}{s0:Shared}{H0:Hp}{E:XK} :
  iC (aW P w) (eU (aW P w) P w K mg base N qual scope f cd A outer s0 H0 E) E:=by
 intro pins σ H s v s' I h
 obtain⟨e,C,d,H',rfl,os,bare,un,hok,F,D⟩:=h
 have j:=I.call' (ch:=[]) os un hok bare (fun b z=>absurd z (by simp))
 exact leaves j (F.grow I.sz) D
end
end XL
end
section
namespace XL
open PySem
section
variable {prog:Program} {w:World} {A:Around} {h:Heap} {g:Array GenState} {d:Drawn} {t:Nat} {os:OsState}
variable {nm q:Str} {C N:Addr} {bs bm:List Value} {hdct:Bool} {sn:List Str} {sub:List Value} {ab:Bool} {col:Option Bool} {dd:Option Addr} {k0 k1 k2 k3 k5:Option Value} {B newId initId:String} {bmN:List Value}
theorem Pb{R:Result→Shared→Prop}(F:ExcBaseFacts B newId initId bmN)(J:bm.contains (.type B)=true)(z:bm.contains (.type "AttributeError")=false)(D:bm.contains (.type "NameError")=false)
  (j:h.get? C=some (excClassObj nm q C N bs bm hdct sn sub ab col dd k0 k1 k2 k3 k5 newId))
  (G:R (.ok (.ret (.ref (h.objs.size+1)))) ⟨(h.push { cls:=.type "tuple",data:=.seq #[] }).push { cls:=.ref C,data:=.fields #[.ref h.objs.size,.none,.none,.none,.bool false,.none] },g,d,t,os⟩) :
  codeAny (model prog w) A (.builtin newId ⟨[.ref C],[]⟩) R ⟨h,g,d,t,os⟩:=by
 have ends:=F.ends
 have S:(Value.ref C::bm).contains (.type B)=true:=by rw[List.contains_cons,J,Bool.or_true]
 have L:(Value.ref C::bm).contains (.type "AttributeError")=false:=by rw[List.contains_cons,z];rfl
 have O:(Value.ref C::bm).contains (.type "NameError")=false:=by rw[List.contains_cons,D];rfl
 refine codeAny_builtinAt F.entry ?_
 unfold Builtin.«BaseException.__new__»
 refine wpAt_bind ?_
 show wpAt _ _ _ (stack>>=_) _ _ _
 refine wpAt_bind (wpAt_stack fun p below=>wpAt_of_wpAny ?_)
 wp_walk
 refine wpAt_of_wpAny ?_
 rw[F.owner]
 repeat(first
  | with_reducible refine wpAny_madeHere_exc F.canon j ?_
  | with_reducible refine wpAny_loadPart_at j ?_
  | (with_reducible refine wpAny_isSubtype_exc j ?_;first | rw[S] | rw[L] | rw[O])
  | wp_step)
 show R _ _
 rw[Heap.size_push]
 exact G
theorem u6{E:Value→Shared→Prop}(F:ExcBaseFacts B newId initId bmN)(O:bm.contains (.type B)=true)(hA:bm.contains (.type "AttributeError")=false)(Y:bm.contains (.type "NameError")=false)
  {fI:Addr} {S:Obj} {Q:Fin→Shared→Prop}
  (z:h.get? C=some (excClassObj nm q C N bs bm hdct sn sub ab col dd k0 k1 k2 k3 k5 newId)) (hi:PySem.W.Looks (model prog w) h (typeLookup (.ref C) "__init__") (some (.ref fI))) (L:h.get? fI=some S) (G:S.cls=.type "function")
  (U:wpAny (model prog w) A (call (.ref fI) [.ref (h.objs.size+1)]) (fun r s'=>r=.none∧Q (.done (.ret (.ref (h.objs.size+1)))) s') E
   ⟨(h.push { cls:=.type "tuple",data:=.seq #[] }).push { cls:=.ref C,data:=.fields #[.ref h.objs.size,.none,.none,.none,.bool false,.none] },g,d,t,os⟩) :
  wpAny (model prog w) A (Builtin.«type.__call__» ⟨[.ref C],[]⟩) Q E ⟨h,g,d,t,os⟩:=by
 repeat(first | with_reducible refine wpAny_loadPart_at z ?_ | with_reducible refine wpAny_madeBy_exc z ?_ | wp_step)
 refine codeAny_call_builtin_code (Code.quiet_builtin _ F.quiet) (wpAny_check_new_subU (bmB:=bm) F O .base z ?_)
 refine Pb F O hA Y z ?_
 show wpAny _ _ _ _ _ _
 generalize J:((h.push { cls:=.type "tuple",data:=.seq #[] }).push { cls:=.ref C,data:=.fields #[.ref h.objs.size,.none,.none,.none,.bool false,.none] })=g2
 have up:∀b o,h.get? b=some o→g2.get? b=some o:=fun b o e=>by rw[←J];exact Heap.get?_push_of_some _ (Heap.get?_push_of_some _ e)
 have j:g2.get? (h.objs.size+1)=some { cls:=.ref C,data:=.fields #[.ref h.objs.size,.none,.none,.none,.bool false,.none] }:=by rw[←J];heap_get
 have cC:(Value.ref C::bm).contains (.ref C)=true:=by simp
 have D:=up _ _ z
 rw[J]at U
 unfold isInstance
 repeat(first | with_reducible refine wpAny_loadPart_at j ?_ | (with_reducible refine wpAny_isSubtype_exc D ?_;rw[cC]) | wp_step)
 show wpAny _ _ (typeLookup (.ref C) _) _ _ _
 refine(hi.keeps up).at (wpAny_holding (wpAny_bind ?_))
 unfold bindSpecial
 refine wpAny_bind (wpAny_typeOf (T:="function") ⟨_,up _ _ L,G⟩ ?_)
 rw[j4 (by decide)]
 refine wpAny_pure (wpAny_bind (wpAny_mono U (fun r s' hr=>?_) fun _ _ x=>x))
 obtain⟨rfl,Z⟩:=hr
 wp_walk
 exact Z
theorem Mr{E:Value→Shared→Prop}(F:ExcBaseFacts B newId initId bmN)(S:bm.contains (.type B)=true)(J:bm.contains (.type "AttributeError")=false)(L:bm.contains (.type "NameError")=false)
  {fI:Addr} {G:Obj} {Q:Value→Shared→Prop}
  (j:h.get? C=some (excClassObj nm q C N bs bm hdct sn sub ab col dd k0 k1 k2 k3 k5 newId)) (hi:PySem.W.Looks (model prog w) h (typeLookup (.ref C) "__init__") (some (.ref fI))) (z:h.get? fI=some G) (D:G.cls=.type "function")
  (O:wpAny (model prog w) (A.under (.builtin "type.__call__" ⟨[.ref C],[]⟩)) (call (.ref fI) [.ref (h.objs.size+1)]) (fun r s'=>r=.none∧Q (.ref (h.objs.size+1)) s') E
   ⟨(h.push { cls:=.type "tuple",data:=.seq #[] }).push { cls:=.ref C,data:=.fields #[.ref h.objs.size,.none,.none,.none,.bool false,.none] },g,d,t,os⟩) :
  wpAny (model prog w) A (call (.ref C) []) Q E ⟨h,g,d,t,os⟩:=by
 have f1:=tc_lookup
 have f2:=tc_bind (.ref C)
 have U:(⟨h,g,d,t,os⟩:Shared).TypeIs (.ref C) "type":=⟨_,j,rfl⟩
 refine wpAny_call (codeAny_of_tree ?_)
 show wpAny _ _ (callAny (.ref C) _) _ _ _
 repeat(any_goals (first | assumption | with_reducible refine wpAny_loadPart_at j ?_ | wp_step))
 refine⟨rfl,?_⟩
 exact codeAny_call_builtin_at (Code.quiet_builtin _ (by decide +kernel)) entry_typeCall (wpAny_check_type_call_sub j (u6 F S J L j hi z D O))
end
section
variable {M:Model} {A:Around} {E:Value→Shared→Prop} {env:Env}
variable {nm q:Str} {C N:Addr} {bs bm:List Value} {hdct:Bool} {sn:List Str} {sub:List Value} {ab:Bool} {col:Option Bool} {dd:Option Addr} {k0 k1 k2 k3 k5:Option Value} {newId:String}
theorem Gh{s:Shared}{x:Sem Value}{Q:Flow→Shared→Prop}(j:bm.contains (.type "BaseException")=true)(F:A.handled=none)
  (h:wpAny M A x (fun v s1=>∃e t od osl,v=.ref e∧s1.heap.get? C=some (excClassObj nm q C N bs bm hdct sn sub ab col dd k0 k1 k2 k3 k5 newId) ∧
   s1.heap.get? e=some ⟨.ref C,od,.fields #[.ref t,.none,.none,.none,.bool false,.none],osl⟩∧E (.ref e) s1) E s):wpAny M A (raiseStmt env (some x) none) Q E s:=by
 have G:(Value.ref C::bm).contains (.type "BaseException")=true:=by rw[List.contains_cons,j,Bool.or_true]
 unfold raiseStmt
 refine wpAny_bind (wpAny_mono h (fun v s1 h1=>?_) fun _ _ z=>z)
 obtain⟨e,t,od,osl,rfl,D,L,J⟩:=h1
 obtain⟨O,g,d,tk,os⟩:=s1
 repeat(first
  | with_reducible refine wpAny_loadPart_at L ?_
  | with_reducible refine wpAny_loadPart_at D ?_
  | (with_reducible refine wpAny_isSubtype_exc D ?_;rw[G])
  | wp_step)
 exact wpAny_raiseNew_none F J
end
end XL
end
section
namespace XL
open PySem PySem.W PyProof.Rows Builtin Builtin.ObjectAttr
noncomputable def mC:List Value→Bool
 | .ref _::r=>mC r
 | [.type a,.type b,.type c]=>a == "Exception" && (b == "BaseException" && c == "object")
 | _=>false
theorem kO(self:Value):∀{l:List Value},mC l=true→refuseLoop self "__setattr__" l=pure ()
 | .ref _::r,h=>by
  rw[refuseLoop_ref]
  exact kO self (l:=r) h
 | [.type a,.type b,.type c],h=>by
  have q:(a == "Exception")=true∧(b == "BaseException")=true∧(c == "object")=true:=by
   rw[←ia,←ia]
   exact h
  rw[beq_iff_eq.mp q.1,beq_iff_eq.mp q.2.1,beq_iff_eq.mp q.2.2]
  exact PySem.F.store_Exception.passes self
theorem qR:∀{l:List Value},mC l=true→l.contains (.type "object")=true
 | .ref _::r,h=>by rw[List.contains_cons,qR (l:=r) h,Bool.or_true]
 | [.type a,.type b,.type c],h=>by
  have q:(a == "Exception")=true∧(b == "BaseException")=true∧(c == "object")=true:=by
   rw[←ia,←ia]
   exact h
  rw[beq_iff_eq.mp q.1,beq_iff_eq.mp q.2.1,beq_iff_eq.mp q.2.2]
  simp
noncomputable def gZ(K:Frag)(C:Addr):Bool:=(clsIn K C).any fun cd=>mC cd.mro
section
variable {prog:Program} {w:World} {A:Around} {s:Shared} {K:Frag} {x C:Addr}
theorem Og{R:Result→Shared→Prop}{Y:Obj}{od:Option Obj}{name:Str}{tk:Tok}{v:Value}(X:K.In s.heap)(I:PySem.W.InstAt s.heap x Y C od)(hp:gZ K C=true)(ht:takerIn K C name=some none)
  (h:∀b,wpAny (model prog w) A.in1 (storeInOwnDict (.ref x) (.ref C) (.str name tk) name v b)
   (fun fin s'=>match fin with | .done f=>R (.ok f) s' | .again J=>J.quiet=true∧codeAny (model prog w) A J R s') (fun e s'=>R (.error e) s') s) :
  codeAny (model prog w) A (.call (.builtin "object.__setattr__") ⟨[.ref x,.str name tk,v],[]⟩) R s:=by
 have j:=PySem.F.store_object
 obtain⟨cd,G,z⟩:=any_some hp
 have ne:cd.mro.isEmpty=false:=by
  cases q:cd.mro with
  | nil=>rw[q]at z;cases z
  | cons _ _=>rfl
 have sub:Looks (model prog w) s.heap (isInstance (.ref x) (.type "object")) true :=
  I.type.andThen (looks_mroIn X (by unfold mroIn;rw[G,Option.bind_some,js (by rw[ne];decide),qR z]))
 refine codeAny_call_builtin j.slot.plain j.entry (@check_slot (model prog w) _ _ s "object.__setattr__" "object" "__setattr__" (.ref x) [.str name tk,v] [] _ j.kind j.split sub (j.args (.ref x) (.str name tk) v) ?_)
 obtain⟨attr,U,O⟩:=Option.bind_eq_some_iff.mp ht
 have S:Looks (model prog w) s.heap (mroOf (.ref C)) cd.mro:=(looks_clsIn X G).andThen .now
 have L:Looks (model prog w) s.heap (storeTaker? attr) none:=by
  cases attr with
  | none=>exact .now
  | some a =>
   obtain⟨b,Z,D⟩:=Option.map_eq_some_iff.mp O
   refine(looks_takesIn X Z).andThen ?_
   cases b with
   | true=>cases D
   | false=>exact .now
 rw[osa_eq,refuse_eq]
 refine wpAny_bind (wpAny_bind (I.type.here (wpAny_bind (S.here ?_))))
 rw[kO _ z]
 refine wpAny_pure (wpAny_bind (I.type.here (wpAny_bind ((looks_findIn X U).here (wpAny_bind (L.here ?_))))))
 exact h _
theorem F_{E:Value→Shared→Prop}{j:Obj}{name:Str}{v:Value}{Q:Unit→Shared→Prop}(X:K.In s.heap)(hx:s.heap.get? x=some j)(z:j.cls=.ref C)(F:j.dict=none)(L:∀c,j.data≠.cls c)
  (hs:findIn K (.ref C) "__setattr__"=some (some (.builtin "object.__setattr__"))) (hp:gZ K C=true) (ht:takerIn K C name=some none) (hh:hasDictIn K C=true)
  (h:∀h' tk,(∀b o,b≠x→s.heap.get? b=some o→h'.get? b=some o)→h'.get? x=some { j with dict:=some s.heap.objs.size }→h'.Ns1 s.heap.objs.size (fun y=>if y=name then some v else none)→Q () { s with heap:=h',toks:=tk }) :
  wpAny (model prog w) A (setAttr (.ref x) name v) Q E s:=by
 have I:PySem.W.InstAt s.heap x j C none:=⟨hx,z,by
  unfold notCls
  obtain⟨_,_,dt,_⟩:=j
  cases dt<;>first | rfl | exact absurd rfl (L _),by rw[F];trivial⟩
 refine set_plain X I hs (Og (s:={ s with toks:=s.toks+1 }) X I hp ht fun b=>?_)
 obtain⟨cd,hc,ah⟩:=any_some hh
 unfold storeInOwnDict
 refine wpAny_bind (wpAny_pure (wpAny_bind ?_))
 unfold ownDictForStores instanceDict
 refine wpAny_bind (wpAny_loadPart hx ?_)
 rw[z]
 refine wpAny_bind (PySem.W.Looks.here (s:={ s with toks:=s.toks+1 }) (PySem.W.looks_clsIn X hc) ?_)
 rw[ah,F]
 simp only[Bool.not_true,Bool.false_eq_true,if_false,typeHasDict,Bool.or_self]
 have J:x≠s.heap.objs.size:=i4 (Heap.lt_size hx)
 have D:(s.heap.push { cls:=.type "dict",data:=.dict #[] }).get? x=some j:=Heap.get?_push_of_some _ hx
 have fin:wpAny (model prog w) A.in1 (do
   let d ←alloc { cls:=.type "dict",data:=.dict #[] }
   update x fun o=>{ o with dict:=some d }
   dictMade (.ref C) x d) (fun r s'=>wpAny (model prog w) A.in1 (match r with | some d=>storeInDict d (.str name s.toks) name v | none=>noDictFor (.ref x) (.ref C) name b)
    (fun fin s'=>match fin with | .done f=>(match(Except.ok f:Result)with | .ok (.ret _)=>Q () s' | .ok _=>False | .error e=>E e s') | .again c'=>c'.quiet=true∧codeAny (model prog w) A c' (fun r s'=>match r with | .ok (.ret _)=>Q () s' | .ok _=>False | .error e=>E e s') s') (fun e s'=>E e s') s') (fun e s'=>E e s') { s with toks:=s.toks+1 }:=by
  refine wpAny_bind (wpAny_alloc' ?_)
  refine wpAny_bind (wpAny_update' D ?_)
  unfold dictMade
  refine wpAny_pure ?_
  generalize Y:((s.heap.push { cls:=.type "dict",data:=.dict #[] }).update x fun o=>{ o with dict:=some s.heap.objs.size })=g
  have gd:g.get? s.heap.objs.size=some { cls:=.type "dict",data:=.dict #[] }:=by
   rw[←Y]
   exact(Heap.get?_update_ne _ _ _ _ J.symm).trans (Heap.get?_push_at rfl rfl)
  have gx:g.get? x=some { j with dict:=some s.heap.objs.size }:=by
   rw[←Y]
   refine Heap.get?_update_self _ D ?_
   have U:=(Heap.get?_some_iff.mp hx).2
   obtain⟨oc,od,ac,osl⟩:=j
   cases ac<;>first | rfl | exact U
  have go:∀b o,b≠x→s.heap.get? b=some o→g.get? b=some o:=fun b o Z e=>by
   rw[←Y]
   exact(Heap.get?_update_ne _ _ _ _ Z).trans (Heap.get?_push_of_some _ e)
  have af:g.Ns s.heap.objs.size (fun _=>none):=⟨_,#[],_,gd,rfl,fun e he=>absurd he (by simp),fun _=>rfl⟩
  show wpAny _ _ (storeInDict s.heap.objs.size (.str name s.toks) name v) _ _ _
  unfold storeInDict newKeyGuard
  refine wpAny_bind (wpAny_pure (wpAny_bind (wpAny_nsSet1 (Heap.Ns1.of_empty af) fun h' O G=>?_)))
  obtain⟨oD,ai,al,aa,S,ag⟩:=O.count (Within.cons name v Within.nil)
  refine wpAny_bind (wpAny_lookBehind aa (by rw[S];exact pastItsLine_dict (iq ag (by rw[cr,iA,sizeLine_eq];omega))) ?_)
  refine wpAny_pure ?_
  refine h h' _ (fun b o Z e=>?_) ?_ O
  ·exact(G.2 b (i4 (Heap.lt_size e))).trans (go b o Z e)
  ·exact(G.2 x J).trans gx
 cases ae:j.data with
 | cls c=>exact absurd ae (L c)
 | _=>exact fin
end
end XL
end
section
namespace XL
open PySem PySem.W PyProof.Rows Builtin Builtin.ObjectAttr
theorem zK:builtinKind "BaseException.__getattribute__"=some .slot:=by decide +kernel
theorem Hm:splitId "BaseException.__getattribute__"=some ("BaseException","__getattribute__"):=by kernel_rfl
theorem Hn:plainId "BaseException.__getattribute__"=true:=by decide +kernel
theorem o8:∀{l:List Value},mC l=true→l.contains (.type "BaseException")=true
 | .ref _::r,h=>by rw[List.contains_cons,o8 (l:=r) h,Bool.or_true]
 | [.type a,.type b,.type c],h=>by
  have q:(a == "Exception")=true∧(b == "BaseException")=true∧(c == "object")=true:=by
   rw[←ia,←ia]
   exact h
  rw[beq_iff_eq.mp q.1,beq_iff_eq.mp q.2.1,beq_iff_eq.mp q.2.2]
  simp
theorem Qh(o:Value):bindSpecial (.builtin "BaseException.__getattribute__") o=pure (.builtin "BaseException.__getattribute__",[o]):=by
 have z:withoutEnding? "BaseException.__getattribute__" "#opaque"=none:=by decide +kernel
 have j:withoutEnding? "BaseException.__getattribute__" "#data"=none:=by decide +kernel
 simp only[bindSpecial,typeOf,builtinType,z,j,zK]
 rfl
section
variable {prog:Program} {w:World} {A:Around} {s:Shared} {K:Frag} {x C:Addr}
theorem Qg{E:Value→Shared→Prop}{O:Obj}{od:Option Obj}{name:Str}{v:Value}{expr:Bool}{Q:Value→Shared→Prop}(X:K.In s.heap)(I:PySem.W.InstAt s.heap x O C od)(hp:gZ K C=true)
  (Y:findIn K (.ref C) "__getattribute__"=some (some (.builtin "BaseException.__getattribute__"))) (L:findIn K (.ref C) "__getattr__"=some none)
  (J:findObj K C od name=some (.value v)) (U:handedIn v=true) (h:Q v { s with toks:=s.toks+1 }):wpAny (model prog w) A (getAttr (.ref x) name expr) Q E s:=by
 obtain⟨cd,S,D⟩:=any_some hp
 have ne:cd.mro.isEmpty=false:=by
  cases q:cd.mro with
  | nil=>rw[q]at D;cases D
  | cons _ _=>rfl
 have sub:Looks (model prog w) s.heap (isInstance (.ref x) (.type "BaseException")) true :=
  I.type.andThen (looks_mroIn X (by unfold mroIn;rw[S,Option.bind_some,js (by rw[ne];decide),o8 D]))
 have G:(onTheHeap (.ref C)&&(Value.builtin "BaseException.__getattribute__"==Value.builtin "object.__getattribute__"))=false:=by
  have z:(Value.builtin "BaseException.__getattribute__"==Value.builtin "object.__getattribute__")=false:=by decide +kernel
  rw[z,Bool.and_false]
 unfold getAttr
 refine wpAny_bind (wpAny_mkText ?_)
 unfold getAttrBy
 refine wpAny_holding (wpAny_bind (PySem.W.Looks.here (s:={ s with toks:=s.toks+1 }) I.type (wpAny_bind (PySem.W.Looks.here (s:={ s with toks:=s.toks+1 }) (looks_findIn X Y) ?_))))
 dsimp only
 rw[G,js (by decide)]
 unfold getAttrByItsOwn hookBefore
 rw[j4 (by rfl)]
 refine wpAny_bind (PySem.W.Looks.here (s:={ s with toks:=s.toks+1 }) (looks_findIn X L) ?_)
 have j:(expr&&onTheHeap (Value.builtin "BaseException.__getattribute__"))=false:=by cases expr<;>rfl
 have run:wpAny (model prog w) A (callGetattribute (.ref x) (.str name s.toks) (.builtin "BaseException.__getattribute__") expr) (fun u s'=>u=v∧s'={ s with toks:=s.toks+1 }) (fun _ _=>False) { s with toks:=s.toks+1 }:=by
  unfold callGetattribute
  rw[j,js (by decide)]
  unfold boundAndCalled
  rw[Qh]
  refine wpAny_bind (wpAny_pure (wpAny_call ?_))
  refine codeAny_call_builtin Hn PySem.F.entry_bexc_ga (@check_slot (model prog w) _ _ _ "BaseException.__getattribute__" "BaseException" "__getattribute__" (.ref x) [.str name s.toks] [] _ zK Hm sub (PySem.F.args_bexc_ga _ _) ?_)
  unfold Builtin.«object.__getattribute__»
  refine wpAny_bind (wpAny_pure (wpAny_bind (wpAny_pure ?_)))
  refine wpAny_bind (PySem.W.Looks.here (s:={ s with toks:=s.toks+1 }) I.type (wpAny_bind (PySem.W.Looks.here (s:={ s with toks:=s.toks+1 }) (looks_find X I J) ?_)))
  exact wpAny_pure ⟨rfl,rfl⟩
 refine wpAny_bind (wpAny_attempt (wpAny_holding (wpAny_mono run (fun u s' Z=>?_) fun _ _ z=>False.elim z)))
 obtain⟨rfl,rfl⟩:=Z
 show wpAny _ _ (handedOut u) _ _ _
 rw[handedOut_of U]
 exact wpAny_pure h
end
end XL
end
section
namespace XL
open PySem PySem.Spec PyProof.Rows L2
noncomputable def yh(x C:Addr)(dd:Option Addr):HO:=.ext fun h=>∃(j:Obj)(t:Addr),h.get? x=some j∧j.cls=.ref C∧j.dict=dd∧j.data=.fields #[.ref t,.none,.none,.none,.bool false,.none]
theorem Hz:plainId "Exception.__init__"=true:=by decide +kernel
theorem HB{M:Model}{A:Around}{E:Value→Shared→Prop}{h:Heap}{g:Array GenState}{d:Drawn}{tk:Nat}{os:OsState}{x C:Addr}{od D:Option Addr}{z:Data}{osl j:Array (Option Value)}{L:Value}{cd:ClassData}{Q:Unit→Shared→Prop}
  (sub:PySem.W.Looks M h (isInstance (.ref x) (.type "Exception")) true) (hx:h.get? x=some ⟨.ref C,od,z,osl⟩) (J:h.get? C=some ⟨L,D,.cls cd,j⟩) (G:Q () ⟨h,g,d,tk,os⟩) :
  wpAny M A (checkBuiltinCall "Exception.__init__" ⟨[.ref x],[]⟩) Q E ⟨h,g,d,tk,os⟩:=by
 have F:=PySem.F.excCall_Exception
 have ns:=F.noStar
 simp only[checkBuiltinCall,F.initKind,F.initSplit,F.initRow]
 refine wpAny_bind (PySem.W.Looks.here (s:=⟨h,g,d,tk,os⟩) sub ?_)
 simp only[Bool.not_true,Bool.false_eq_true,if_false]
 repeat(first | with_reducible refine wpAny_loadPart_at hx ?_ | with_reducible refine wpAny_loadPart_at J ?_ | wp_step)
 exact G
theorem qT:∀{l:List Value},mC l=true→l.contains (.type "Exception")=true
 | .ref _::r,h=>by rw[List.contains_cons,qT (l:=r) h,Bool.or_true]
 | [.type a,.type b,.type c],h=>by
  have q:(a == "Exception")=true∧(b == "BaseException")=true∧(c == "object")=true:=by
   rw[←ia,←ia]
   exact h
  rw[beq_iff_eq.mp q.1,beq_iff_eq.mp q.2.1,beq_iff_eq.mp q.2.2]
  simp
section
variable {X:Cx}
theorem Qn:nu X (.builtin "Exception.__init__") (fun xs H Q=>∃x C dd,xs=[.ref x]∧H x=some (yh x C dd)∧gZ X.K C=true∧Q .non H):=by
 intro pins s σ H xs us Q I r h
 obtain⟨x,C,dd,rfl,hx,hp,q⟩:=h
 obtain rfl:=Vals.Uk r
 obtain⟨⟨oe,t,h1,h2,Y,h4⟩,_,_⟩:=(show cV X.prog X.w H s.heap x (yh x C dd)from I.hok x _ hx)
 obtain⟨cd,J,S⟩:=PySem.W.any_some hp
 have ne:cd.mro.isEmpty=false:=by
  cases q:cd.mro with
  | nil=>rw[q]at S;cases S
  | cons _ _=>rfl
 have ty:PySem.W.Looks (model X.prog X.w) s.heap (typeOf (.ref x)) (.ref C):=h2▸(PySem.W.Looks.ld h1).andThen .now
 have sub:PySem.W.Looks (model X.prog X.w) s.heap (isInstance (.ref x) (.type "Exception")) true :=
  ty.andThen (PySem.W.looks_mroIn I.oZ (by unfold PySem.W.mroIn;rw[J,Option.bind_some,js (by rw[ne];decide),qT S]))
 obtain⟨c2,L,j,U⟩:∃c2 L j,s.heap.get? C=some ⟨c2,L,.cls cd,j⟩:=by
  unfold PySem.W.clsIn at J
  split at J
  ·rename_i q
   cases J
   exact⟨_,_,_,I.oZ _ _ q⟩
  ·cases J
 obtain⟨oc,od,aa,osl⟩:=oe
 dsimp only at h2 Y h4
 subst h2 Y h4
 refine wpAny_call (codeAny_call_builtin Hz PySem.F.excCall_Exception.initEntry (HB (g:=s.gens) (d:=s.drawn) (tk:=s.toks) (os:=s.os) sub h1 U ?_))
 have sz:0<(#[Value.ref t,Value.none,.none,.none,.bool false,.none]:Array Value).size:=by simp
 have O:(s.heap.push { cls:=.type "tuple",data:=.seq #[] }).get? x=some _:=Heap.get?_push_of_some _ h1
 have G:=Heap.get?_update_self (Obj.mapFields (·.setIfInBounds 0 (Value.ref s.heap.objs.size))) O (Obj.isFreed_of_fields (Obj.data_mapFields rfl _))
 have fin:∀h':Heap,h'=(s.heap.push { cls:=.type "tuple",data:=.seq #[] }).update x (Obj.mapFields (·.setIfInBounds 0 (Value.ref s.heap.objs.size)))→EP X pins σ Q .none { s with heap:=h' }:=fun h' e=>by
  refine⟨.non,H,?_,rfl,q⟩
  have kp:∀b u,b≠x→s.heap.get? b=some u→h'.get? b=some u:=fun b u hb z=>by
   rw[e,Heap.get?_update_other _ _ (Ne.symm hb)]
   exact Heap.get?_push_of_some _ z
  have D:h'.get? x=some ⟨.ref C,od,.fields #[.ref s.heap.objs.size,.none,.none,.none,.bool false,.none],osl⟩:=by rw[e];exact G
  have Z:=I.write (x:=x) (e:=x) (o:=yh x C od) (t':=s.toks) (h':=h') (by rw[hx];exact True.intro) (.inl rfl) kp ⟨_,D⟩
   ⟨⟨_,s.heap.objs.size,D,rfl,rfl,rfl⟩,⟨_,D⟩,fun g1 g2 ⟨o,t,y1,y2⟩ k=>⟨o,t,k _ y1,y2⟩⟩
  have same:upd H x (yh x C od)=H:=by
   funext b
   unfold upd
   by_cases z:b=x
   ·rw[j4 z,z,hx]
   ·rw[js z]
  rw[same]at Z
  exact Z
 unfold Builtin.«BaseException.__init__»
 wp_walk
 exact fin _ rfl
noncomputable def Ui(K:PySem.W.Frag)(ta tv:TE)(f:Str):TS:=fun D σ H=>tv σ H fun y H1=>ta σ H1 fun v H2=>∃x C,v=.ref x∧H2 x=some (yh x C none)∧gZ K C=true ∧
 PySem.W.findIn K (.ref C) "__setattr__"=some (some (.builtin "object.__setattr__"))∧PySem.W.takerIn K C f=some none∧PySem.W.hasDictIn K C=true ∧
 ∀d,H2 d=none→d≠x→D.nx σ (upd (upd H2 d (.xd [(f,y)])) x (yh x C (some d)))
theorem Oa{o value:Expr}{f:Str}{pos pos':Pos}{ta tv:TE}(ha:PE X o ta)(hv:PE X value tv)(hs:swapsWith value (some (.Attribute o f pos')) pos.line X.env=pure false) :
  PS X (.Assign [.Attribute o f pos'] value pos) (Ui X.K ta tv f):=by
 intro pins s σ H D I h
 refine plainObj_wpAny_Assign_Attribute (cG (hv pins s σ H _ I h) fun u s1 ⟨y,H1,I1,ry,q⟩=>cG (ha pins s1 σ H1 _ I1 q) fun ov s2 hz=>?_) hs
 obtain⟨v,H2,J,rx,x,C,ex,hx,hp,Y,ht,hh,q2⟩:=hz
 subst ex
 obtain rfl:ov=Value.ref x:=rx
 obtain⟨⟨oe,t,h1,h2,h3,Z⟩,_,_⟩:=(show cV X.prog X.w H2 s2.heap x (yh x C none)from J.hok x _ hx)
 refine F_ J.oZ h1 h2 h3 (fun c z=>by rw[Z]at z;cases z) Y hp ht hh fun h' tk kp F U=>?_
 have hsz:H2 s2.heap.objs.size=none:=J.hok.fresh (f' _)
 have O:s2.heap.objs.size≠x:=Nat.ne_of_gt (Heap.lt_size h1)
 refine⟨σ,_,?_,q2 s2.heap.objs.size hsz O⟩
 have j:∀b,H2 b=none→b≠x:=fun b e z=>by rw[z,hx]at e;cases e
 refine J.un (h':=h') (t':=tk) ⟨fun b o e n _ _=>kp b o (j b n) e,fun b o e n _ _=>⟨o.slots,kp b o (j b n) e⟩,fun b o e n _=>?_,fun b o e _=>?_,fun b xs e=>?_,fun b o u e=>?_,fun b ps e=>⟨#[],?_⟩⟩ ?_
 ·rw[az (j b n),az (i4 (Heap.lt_size e))]
  exact n
 ·by_cases z:b=x
  ·exact⟨_,z▸F⟩
  ·exact⟨o,kp b o z e⟩
 ·rw[az (qL e hx (by intro z;cases z)),az (aH e hsz)]
  exact e
 ·rw[az (qL e hx (by intro z;cases z)),az (aH e hsz)]
  exact e
 ·rw[az (qL e hx (by intro z;cases z)),az (aH e hsz),e]
  simp
 ·intro b u e
  by_cases L:b=x
  ·subst L
   rw[ak]at e
   cases e
   exact⟨⟨_,t,F,h2,rfl,Z⟩,⟨_,F⟩,fun g1 g2 ⟨o,t,y1,y2⟩ k=>⟨o,t,k _ y1,y2⟩⟩
  ·rw[az L]at e
   by_cases zd:b=s2.heap.objs.size
   ·subst zd
    rw[ak]at e
    cases e
    refine⟨_,U,fun g=>?_⟩
    by_cases S:g=f
    ·subst S
     rw[j4 rfl,List.lookup_cons_self]
     exact ry
    ·rw[js S]
     have nb:(g==f)=false:=by
      cases q:(g==f)with
      | false=>rfl
      | true=>exact absurd (eq_of_beq q) S
     rw[List.lookup_cons,nb]
     exact True.intro
   ·rw[az zd]at e
    refine(J.hok b u e).stay (fun c v G z=>kp c v (fun zz=>?_) z) (fun c z=>?_) fun c xs z=>?_
    ·rcases G with G | G
     ·exact L (G.symm.trans zz)
     ·rw[zz,hx]at G
      cases G
    ·rw[az (qL z hx (by intro y;cases y)),az (aH z hsz)]
     exact z
    ·rw[az (qL z hx (by intro y;cases y)),az (aH z hsz)]
     exact z
end
end XL
end
section
namespace XL
open PySem PySem.Spec PyProof.Rows L2
structure h_ (K:PySem.W.Frag) (C:Addr) (m:Str) (f:Addr):Prop where
 ga:PySem.W.specialIn K (.ref C) "__getattribute__"=some (some (.builtin "type.__getattribute__"))
 rd:PySem.W.readsIn K C (.type "type")=true
 at_:PySem.W.findCls K (.ref C) (.type "type") m=some (.val (.ref f))
 kp:PySem.W.keepIn K (.ref f)=true
theorem QW(K:PySem.W.Frag):PySem.W.findCls K (.type "Exception") (.type "type") "__init__"=some (.val (.builtin "Exception.__init__")):=by kernel_rfl
section
variable {X:Cx} {CX:Ff} {k:Nat} {f C:Addr} {fd:FuncData} {ps:List Str} {sp:Sp} {dvs:List V} {ds:List Value} {E:XK} {m:Str} {pos apos:Pos} {e o:Expr} {es:List Expr} {ta:TE} {t:TA}
theorem lK{pl:Sem Bool}(he:PE X o (tC (.ref C)))(j:h_ X.K C m f)(F:aF X.prog X.w X.K X.mg X.base CX k f fd ps sp)(Y:bH k X.A)(hb:Binds X.K fd ps ds)(hd:Vals dvs ds)(hx:iC CX X E)(Z:PA X (e::es) t)
  (G:starEach (e::es) X.env=(false,eval e X.env)::starEach es X.env:=by rfl) (z:(backTo pos (starEach es X.env)).any (·.1)=false:=by rfl)
  (ht:eval (.Call (.Attribute o m apos) (e::es) [] pos) X.env=(do
   let J ←eval o X.env
   standAt apos.atName
   let(f,first) ←holding [J] (getMethod J m pl)
   callWith pos f first (backTo pos (starEach (e::es) X.env)) (backToKw pos (keywordEach [] X.env))):=by rfl) :
  PE X (.Call (.Attribute o m apos) (e::es) [] pos) (qC sp dvs E t):=by
 intro pins s σ H Q I h
 refine PySem.W.methodCall_KW (pl:=pl) (cG (he pins s σ H (fun v H1=>v=.ref C∧H1=H) I ⟨rfl,rfl⟩) fun u s1 ⟨v,H1,D,S,e1,e2⟩=>?_) ht
 subst e1 e2
 obtain rfl:u=Value.ref C:=S
 refine PySem.W.method_cls D.oZ j.ga (PySem.W.cls_value D.oZ j.rd j.at_ rfl ?_)
 have U:=D.tok (s1.toks+1)
 refine PySem.W.callWith_K (first:=[]) (h₀:=X.base) I.ok.mod.kin j.kp (cG (Z pos pins _ σ H1 _ U h) fun us s2 ⟨vs,H2,L,r,O⟩=>⟨L.oZ,?_⟩) G z
 exact wU F Y hb hd hx L r O
theorem Kl{pl:Sem Bool}{p:Pos}(S:Gl X "Exception")(J:X.mg "Exception"=none)(L:PA X [e] t)
  (z:starEach [e] X.env=[(false,eval e X.env)]:=by rfl)
  (Y:eval (.Call (.Attribute (.Name "Exception" p) "__init__" apos) [e] [] pos) X.env=(do
   let D ←eval (.Name "Exception" p) X.env
   standAt apos.atName
   let(f,first) ←holding [D] (getMethod D "__init__" pl)
   callWith pos f first (backTo pos (starEach [e] X.env)) (backToKw pos (keywordEach [] X.env))):=by rfl) :
  PE X (.Call (.Attribute (.Name "Exception" p) "__init__" apos) [e] [] pos) (Qy (fun xs H Q=>∃x C dd,xs=[.ref x]∧H x=some (yh x C dd)∧gZ X.K C=true∧Q .non H) t):=by
 intro pins s σ H Q I h
 refine PySem.W.methodCall_KW (pl:=pl) (qe I S J (u:=.type "Exception") (by decide +kernel) ?_ (by decide) (by decide)) Y
 obtain⟨Z,j⟩:=I.fr
 refine PySem.W.method_type j I.ok.mod.kin (by kernel_rfl) (by decide +kernel) (QW X.K) (by decide +kernel) ?_
 have F:=I.tok (s.toks+1)
 exact PyProof.Rows.callWith_builtin1 (cG (L pos pins _ σ H _ F h) fun us s1 ⟨vs,H1,O,U,G⟩=>Qn pins s1 σ H1 vs us Q O U G) z rfl
end
structure pI (K:PySem.W.Frag) (C:Addr):Prop where
 over:gZ K C=true
 sa:PySem.W.findIn K (.ref C) "__setattr__"=some (some (.builtin "object.__setattr__"))
 tk:PySem.W.takerIn K C "number"=some none
 hd:PySem.W.hasDictIn K C=true
 ga:PySem.W.findIn K (.ref C) "__getattribute__"=some (some (.builtin "BaseException.__getattribute__"))
 gh:PySem.W.findIn K (.ref C) "__getattr__"=some none
 nn:PySem.W.findIn K (.ref C) "number"=some none
noncomputable def WL(K:PySem.W.Frag):Sp:=fun vs H Q _=>∃x C n,vs=[.ref x,.int n]∧H x=some (yh x C none)∧pI K C∧∀d,H d=none→d≠x→Q .non (upd (upd H d (.xd [("number",.int n)])) x (yh x C (some d)))
noncomputable def Ny(K:PySem.W.Frag)(n:Int):Sp:=fun vs H Q _=>∃x C,vs=[.ref x]∧H x=some (yh x C none)∧pI K C∧∀d,H d=none→d≠x→Q .non (upd (upd H d (.xd [("number",.int n)])) x (yh x C (some d)))
end XL
end
section
set_option linter.unusedVariables false
namespace XL
open PySem PySem.Spec PyProof.Rows L2
structure Wk (K:PySem.W.Frag) (C fI:Addr):Prop where
 cls:∃nm q N bs bm hdct sn sub ab col dd k0 k1 k2 k3 k5,K.lookup C=some (excClassObj nm q C N bs bm hdct sn sub ab col dd k0 k1 k2 k3 k5 "Exception.__new__")∧bm.contains (.type "Exception")=true ∧
  bm.contains (.type "AttributeError")=false∧bm.contains (.type "NameError")=false∧bm.contains (.type "BaseException")=true
 init:PySem.W.findIn K (.ref C) "__init__"=some (some (.ref fI))
 fn:PySem.W.isFn K (.ref fI)=true
 kp:PySem.W.keepIn K (.ref C)=true
noncomputable def Throws(X:Cx)(E:XK):Prop:=∀(pins:List (Addr×Obj))(σ:L2.St)(H:Hp)(s:Shared)(m:Nat)(e C d:Addr),Inv X pins σ H s→X.s_0.heap.objs.size≤m→(∀p∈X.pn++pins,p.1<m)→zW m H s.heap e C d→E (.ref C) (some d) H→X.xe (.ref e) s
theorem Throws.passes{X:Cx}{E:XK}(t:Throws X E):iC (aW X.prog X.w) X E:=by
 intro pins σ H s v s' I h
 obtain⟨e,C,d,H',rfl,os,bare,un,hok,F,D⟩:=h
 have j:=I.call' (ch:=[]) os un hok bare (fun b z=>absurd z (by simp))
 exact t pins σ H' s' s.heap.objs.size e C d j I.sz (fun p G=>Heap.lt_size (I.pin p G).1) F D
theorem bF{P:Program}{w:World}{K:PySem.W.Frag}{mg:Str→Option Value}{base:Heap}{N:List Str}{qual:Str}{scope:Scope}{f:Addr}{cd:Value}{A:Around}{outer:List Env}{s0:Shared}{H0:Hp}{E:XK} :
  Throws (eU (aW P w) P w K mg base N qual scope f cd A outer s0 H0 E) E:=fun pins σ H s m e C d I j _ F z=>leaves I (F.grow j) z
noncomputable def Il(C:Addr)(n:Int)(E:XK):TS:=fun _ _ H=>∀e d H',(∀b o,H b=some o→H' b=some o)→H' e=some (Mf e C d)→H' d=some (.xd [("number",.int n)])→E (.ref C) (some d) H'
theorem Sx{K:PySem.W.Frag}{f:Addr}(h:PySem.W.isFn K (.ref f)=true){g:Heap}(X:K.In g):∃o,g.get? f=some o∧o.cls=.type "function":=by
 have e:=beq_iff_eq.mp h
 unfold PySem.W.typeIn at e
 simp only at e
 cases q:K.lookup f with
 | none=>rw[q]at e;cases e
 | some o =>
  rw[q]at e
  exact⟨o,X _ _ q,Option.some.inj e⟩
theorem bO{X:Cx}{C fI:Addr}{x:Str}{np cpos pos:Pos}{n:Int}{E:XK}{k:Nat}{fd:FuncData}(M:Wk X.K C fI)(hc:pI X.K C)(F:aF X.prog X.w X.K X.mg X.base (aW X.prog X.w) k fI fd ["self"] (Ny X.K n))(hr:bH (k+1) X.A)
  (hg:Gl X x) (hm:X.mg x=some (.ref C)) (hb:Binds X.K fd ["self"] []) (calm:X.calm=true) (th:Throws X E) (ae:(x==("__debug__" : Str))=false:=by decide) :
  PS X (.Raise (some (.Call (.Name x np) [] [] cpos)) none pos) (Il C n E):=by
 intro pins s σ H D I h
 obtain⟨nm,q,N,bs,bm,hdct,sn,sub,ab,col,dd,k0,k1,k2,k3,k5,hC,b1,b2,b3,b4⟩:=M.cls
 rw[arm_exec_Raise]
 refine wpAny_bind (wpAny_standAt (Gh (C:=C) (nm:=nm) (q:=q) (N:=N) (bs:=bs) (bm:=bm) (hdct:=hdct) (sn:=sn) (sub:=sub) (ab:=ab) (col:=col) (dd:=dd) (k0:=k0) (k1:=k1) (k2:=k2) (k3:=k3) (k5:=k5) (newId:="Exception.__new__") b4 (I.ok.hd calm) ?_))
 refine wpAny_bind (wpAny_mono (Q:=fun v s1=>∃e t od osl,v=.ref e∧s1.heap.get? C=some (excClassObj nm q C N bs bm hdct sn sub ab col dd k0 k1 k2 k3 k5 "Exception.__new__") ∧
   s1.heap.get? e=some ⟨.ref C,od,.fields #[.ref t,.none,.none,.none,.bool false,.none],osl⟩∧X.xe (.ref e) s1) (E:=X.xe) ?_ (fun v s3 h3=>wpAny_bind (wpAny_standAt (wpAny_pure h3))) fun _ _ z=>z)
 refine wpAny_Call_Name_kw (lU I hg hm ?_ ae)
 refine PySem.W.callWith_K0 (first:=[]) I.oZ M.kp ?_
 obtain⟨oI,aa,ac⟩:=Sx M.fn I.oZ
 obtain⟨j,g,dr,tk,os⟩:=s
 refine Mr (w:=X.w) PySem.F.excBase_Exception b1 b2 b3 (I.oZ _ _ hC) (PySem.W.looks_findIn I.oZ M.init) aa ac ?_
 generalize O:((j.push { cls:=.type "tuple",data:=.seq #[] }).push { cls:=.ref C,data:=.fields #[.ref j.objs.size,.none,.none,.none,.bool false,.none] })=h2
 have up:∀b u,j.get? b=some u→h2.get? b=some u:=fun b u e=>by rw[←O];exact Heap.get?_push_of_some _ (Heap.get?_push_of_some _ e)
 have hx:h2.get? (j.objs.size+1)=some ⟨.ref C,none,.fields #[.ref j.objs.size,.none,.none,.none,.bool false,.none],#[]⟩:=by rw[←O];heap_get
 have Y:Inv X pins σ (upd H (j.objs.size+1) (yh (j.objs.size+1) C none)) ⟨h2,g,dr,tk,os⟩ :=
  I.laid (a:=j.objs.size+1) (t':=tk) up (Nat.le_succ _) ⟨⟨_,j.objs.size,hx,rfl,rfl,rfl⟩,⟨_,hx⟩,fun g1 g2 ⟨o,t,J,S⟩ k=>⟨o,t,k _ J,S⟩⟩
 have Z:H (j.objs.size+1)=none:=I.hok.fresh (Nat.le_succ _)
 have U:Ny X.K n [.ref (j.objs.size+1)] (upd H (j.objs.size+1) (yh (j.objs.size+1) C none)) (fun v H2=>v=.non∧∃d,H d=none∧d≠j.objs.size+1∧H2=upd (upd (upd H (j.objs.size+1) (yh (j.objs.size+1) C none)) d (.xd [("number",.int n)])) (j.objs.size+1) (yh (j.objs.size+1) C (some d))) (fun _ _ _=>False) :=
  ⟨_,C,rfl,ak,hc,fun d hd G=>⟨rfl,d,by rw[az G]at hd;exact hd,G,rfl⟩⟩
 refine wpAny_call (codeAny_mono (F.run _ X.stack ⟨h2,g,dr,tk,os⟩ _ ⟨[.ref (j.objs.size+1)],[]⟩ [.ref (j.objs.size+1)] [.ref (j.objs.size+1)] _ _ (hr.make C [] []) (Y.env0.make C [] []) (hb _ [.ref (j.objs.size+1)] Y.oZ rfl) (.cons rfl .nil) U) fun r s' L=>?_)
 cases r with
 | error v =>
  obtain⟨_,_,_,_,_,_,_,_,_,_,z⟩:=L
  exact False.elim z
 | ok fl =>
  cases fl with
  | next=>exact False.elim L
  | brk=>exact False.elim L
  | cont=>exact False.elim L
  | ret u =>
   obtain⟨v,H2,I3,rv,ev,d,hd,G,eH⟩:=Y.after L
   subst ev
   refine⟨rv,?_⟩
   have ex:H2 (j.objs.size+1)=some (yh (j.objs.size+1) C (some d)):=by rw[eH];exact ak
   obtain⟨⟨oe,t,J,S,y3,y4⟩,_,_⟩:=(show cV X.prog X.w H2 s'.heap (j.objs.size+1) (yh (j.objs.size+1) C (some d))from I3.hok _ _ ex)
   obtain⟨oc,od,af,osl⟩:=oe
   dsimp only at S y3 y4
   subst S y3 y4
   have I4:Inv X pins σ (upd H2 (j.objs.size+1) (Mf (j.objs.size+1) C d)) s':=by
    have w1:=I3.write (x:=j.objs.size+1) (e:=j.objs.size+1) (o:=Mf (j.objs.size+1) C d) (t':=s'.toks) (h':=s'.heap) (by rw[ex];exact True.intro) (.inl rfl) (fun b z _ e=>e) ⟨_,J⟩
     ⟨⟨_,_,J,rfl,rfl,rfl⟩,⟨_,J⟩,fun g1 g2 ⟨o,t,z1,z2⟩ k=>⟨o,t,k _ z1,z2⟩⟩
    exact w1
   refine⟨j.objs.size+1,t,some d,osl,rfl,I3.oZ _ _ hC,J,?_⟩
   refine th pins σ _ s' j.objs.size (j.objs.size+1) C d I4 I.sz (fun p j=>Heap.lt_size (I.pin p j).1) ⟨ak,Nat.le_succ _,.none,⟨_,_,J,rfl,rfl,rfl,rfl⟩,.inl rfl⟩ ?_
   refine h (j.objs.size+1) d _ (fun b o e=>?_) ak ?_
   ·have nb:b≠j.objs.size+1:=aH e Z
    rw[az nb,eH,az nb,az (aH e hd),az nb]
    exact e
   ·rw[az G,eH,az G]
    exact ak
end XL
end
section
namespace XL
open PySem PySem.Spec PyProof.Rows L2
section
variable {X:Cx} {pins:List (Addr×Obj)} {σ:L2.St} {H:Hp} {s:Shared} {e C d:Addr}
theorem km{as:List Addr}{fl:Value}{h':Heap}{m:Nat}(I:Inv X pins σ H s)(F:zW m H s.heap e C d)(hm:X.s_0.heap.objs.size≤m)(hp:∀p∈X.pn++pins,p.1<m)
  (g3:∀b∈as,b=e∨H b=none) (g4:∀b∈as,b∈frs X.stack∨m≤b) (g6:∀b∈as,b=e∨b∈frs X.stack∨∃o vs,s.heap.get? b=some o∧o.data=.fields vs)
  (S:M_ (PySem.W.hideAll s.heap as) X.stack e (.ref C) (some d) fl s.heap h'):Inv X pins σ H { s with heap:=h' }:=by
 have aa:=I.stack
 have fd:∀b∈frs X.stack,∀o vs,s.heap.get? b=some o→o.data≠.fields vs:=fun b J o vs Y hd=>by
  obtain⟨_,o',j,D⟩:=aa.mem J
  rw[Y]at j
  cases j
  exact D vs hd
 have G:∀b,b∈(as.filter fun b=>decide (b≠e)&&decide (b∉frs X.stack))↔b∈as∧b≠e∧b∉frs X.stack:=fun b=>by
  rw[List.mem_filter,ia,jI,jI]
 refine I.call' (s':={ s with heap:=h' }) (ch:=as.filter fun b=>decide (b≠e)&&decide (b∉frs X.stack)) rfl ⟨fun b o q n J hx=>?_,fun b o q n J hx=>?_,fun b o q n hx=>n,fun b o q hx=>?_,fun _ _ q=>q,fun _ _ _ q=>q,fun b ps q=>⟨#[],by rw[q];simp⟩⟩ (kE I.hok F.ex g3 S) I.bare fun b J=>?_
 ·refine S.st b o (PySem.W.hideAll_get _ q fun z=>hx ((G b).mpr ⟨z,fun y=>?_,J⟩))
  rw[y,F.ex]at n
  cases n
 ·exact S.sl b o q fun vs z=>fd b J o vs q z
 ·by_cases z:b∈as
  ·by_cases U:b=e
   ·subst U
    obtain⟨_,⟨oe,_,x1,_⟩,_⟩:=S.ex
    exact⟨oe,x1⟩
   ·by_cases O:b∈frs X.stack
    ·obtain⟨_,o',j,_⟩:=S.fr.mem O
     exact⟨o',j⟩
    ·exact absurd ((G b).mpr ⟨z,U,O⟩) hx
  ·exact⟨o,S.st b o (PySem.W.hideAll_get _ q z)⟩
 ·obtain⟨z,U,O⟩:=(G b).mp J
  have L:m≤b:=(g4 b z).elim (fun y=>absurd y O) id
  obtain⟨o,vs,Y,hd⟩:=(g6 b z).elim (fun y=>absurd y U) fun y=>y.elim (fun y=>absurd y O) id
  refine⟨.inr (iq hm L),fun y=>?_,fun x c hc y=>?_,fun p Z y=>?_⟩
  ·obtain⟨mm,⟨o',es,ep,j,D,_⟩,_⟩:=I.loc
   rw[←y,Y]at j
   cases j
   rw[hd]at D
   cases D
  ·obtain⟨v,o',j,D⟩:=I.cell x c hc
   rw[y,Y]at j
   cases j
   rw[hd]at D
   cases D
  ·have:=hp p Z
   rw[y]at this
   exact absurd this (Nat.not_lt.mpr L)
theorem Bw{h':Heap}{O:Str→Option Value}{tk:Nat}(I:Inv X pins σ H s)(S:h'.Ns X.env.locals O)(F:Heap.SameBut X.env.locals s.heap h'):Inv X pins (List.replicate σ.length none) H { s with heap:=h',toks:=tk }:=by
 have D:∀b o,X.s_0.heap.get? b=some o→b≠X.env.locals:=fun b o e=>i4 (ic (Heap.lt_size e) I.ok.above)
 refine⟨I.ok,I.os,I.bare,⟨fun b o e n J hx=>(F.2 b (D b o e)).trans (I.base.keep b o e n J hx),fun b o e n J hx=>?_,I.base.free,fun b o e hx=>?_,I.base.tups,I.base.frzs,I.base.tbls⟩,⟨O,S,fun j y v' e1 e2 e3=>?_⟩,fun y c e=>?_,I.free,I.freeC,fun p Z=>?_,fun b U e=>?_,by rw[List.length_replicate];exact I.len⟩
 ·obtain⟨sl,e1⟩:=I.base.slot b o e n J hx
  exact⟨sl,(F.2 b (D b o e)).trans e1⟩
 ·obtain⟨o',e1⟩:=I.base.there b o e hx
  exact⟨o',(F.2 b (D b o e)).trans e1⟩
 ·rw[List.getElem?_replicate]at e2
  split at e2<;>cases e2
 ·obtain⟨L,z⟩:=I.cell y c e
  exact⟨L,z.sameBut F (I.QQ y c e)⟩
 ·obtain⟨e,n,ne,Y,dd⟩:=I.pin p Z
  exact⟨(F.2 p.1 ne).trans e,n,ne,Y,dd⟩
 ·refine(I.hok b U e).stay (fun c L G q=>(F.2 c ?_).trans q) (fun _ q=>q) fun _ _ q=>q
  intro z
  rcases G with G | G
  ·rw[←G,z,I.free]at e
   cases e
  ·rw[z,I.free]at G
   cases G
noncomputable abbrev Qz(X:Cx)(e:Addr)(E:Value→Shared→Prop):Cx:={ X with A:=X.A.mark (some (.ref e)),calm:=false,xe:=E }
noncomputable abbrev Ec(X:Cx)(pn:List (Addr×Obj))(E:Value→Shared→Prop):Cx:={ X with xe:=E,pn:=pn }
theorem Ea(I:Inv X pins σ H s)(e:Addr)(E:Value→Shared→Prop):Inv (Qz X e E) pins σ H s :=
 ⟨⟨I.ok.mod,I.ok.kind,I.ok.glob,I.ok.blt,I.ok.above,I.ok.inj,I.ok.has,I.ok.cab,fun z=>Bool.noConfusion z,I.ok.frames,I.ok.stk,I.ok.exf,I.ok.bs,I.ok.bsz,I.ok.noex,I.ok.exfs,I.ok.nQ,I.ok.frf⟩,I.os,I.bare,I.base,I.loc,I.cell,I.free,I.freeC,I.pin,I.hok,I.len⟩
theorem R7{E:Value→Shared→Prop}{hd:X.calm=true→X.A.handled=none}(I:Inv (Qz X e E) pins σ H s):Inv X pins σ H s :=
 ⟨⟨I.ok.mod,I.ok.kind,I.ok.glob,I.ok.blt,I.ok.above,I.ok.inj,I.ok.has,I.ok.cab,hd,I.ok.frames,I.ok.stk,I.ok.exf,I.ok.bs,I.ok.bsz,I.ok.noex,I.ok.exfs,I.ok.nQ,I.ok.frf⟩,I.os,I.bare,I.base,I.loc,I.cell,I.free,I.freeC,I.pin,I.hok,I.len⟩
theorem PX(I:Inv X pins σ H s)(E:Value→Shared→Prop):Inv (Ec X (X.pn++pins) E) [] σ H s :=
 ⟨⟨I.ok.mod,I.ok.kind,I.ok.glob,I.ok.blt,I.ok.above,I.ok.inj,I.ok.has,I.ok.cab,I.ok.hd,I.ok.frames,I.ok.stk,I.ok.exf,I.ok.bs,I.ok.bsz,I.ok.noex,I.ok.exfs,I.ok.nQ,I.ok.frf⟩,I.os,I.bare,I.base,I.loc,I.cell,I.free,I.freeC,fun p j=>I.pin p (by rw[i8]at j;exact j),I.hok,I.len⟩
theorem xm{E:Value→Shared→Prop}{j:List (Addr×Obj)}(I:Inv (Ec X (X.pn++pins) E) j σ H s):Inv X pins σ H s :=
 ⟨⟨I.ok.mod,I.ok.kind,I.ok.glob,I.ok.blt,I.ok.above,I.ok.inj,I.ok.has,I.ok.cab,I.ok.hd,I.ok.frames,I.ok.stk,I.ok.exf,I.ok.bs,I.ok.bsz,I.ok.noex,I.ok.exfs,I.ok.nQ,I.ok.frf⟩,I.os,I.bare,I.base,I.loc,I.cell,I.free,I.freeC,fun p z=>I.pin p (List.mem_append_left _ z),I.hok,I.len⟩
end
end XL
end
section
set_option linter.unusedVariables false
namespace XL
open PySem PySem.Spec PyProof.Rows L2
noncomputable def Tz(K:PySem.W.Frag)(ta:TE):TE:=fun σ H Q=>ta σ H fun v H1=>∃x C d n,v=.ref x∧H1 x=some (Mf x C d)∧H1 d=some (.xd [("number",.int n)])∧pI K C∧Q (.int n) H1
theorem Oc{X:Cx}{e:Expr}{pos:Pos}{ta:TE}(he:PE X e ta)(hb:attributeBase e "number" X.env (eval e X.env)=eval e X.env):PE X (.Attribute e "number" pos) (Tz X.K ta):=by
 intro pins s σ H Q I h
 refine Ey hb (cG (he pins s σ H _ I h) fun u s1 hz=>?_)
 obtain⟨v,H1,D,U,x,C,d,n,ex,hx,hd,j,q⟩:=hz
 subst ex
 obtain rfl:u=Value.ref x:=U
 obtain⟨⟨G,vs,h1,h2,S,h4⟩,_,_⟩:=(show cV X.prog X.w H1 s1.heap x (Mf x C d)from D.hok x _ hx)
 obtain⟨mA,L,z⟩:=(show cV X.prog X.w H1 s1.heap d (.xd [("number",.int n)])from D.hok d _ hd)
 have O:=z "number"
 rw[List.lookup_cons_self]at O
 obtain⟨u,hu,Y⟩:=n_.some_of O
 obtain⟨t,rfl⟩:=(show ∃t,u=Value.int n t from Y)
 obtain⟨od,F,hl⟩:=vM L
 have Z:PySem.W.notCls G=true:=by
  unfold PySem.W.notCls
  obtain⟨_,_,dt,_⟩:=G
  cases dt<;>first | rfl | cases h4
 have J:PySem.W.InstAt s1.heap x G C (some od):=⟨h1,h2,Z,by rw[S];exact F⟩
 refine Qg D.oZ J j.over j.ga j.gh (PySem.W.findObj_own j.hd j.nn rfl (by rw[hl,hu])) rfl ?_
 exact⟨.int n,H1,D.tok _,⟨t,rfl⟩,q⟩
noncomputable def wj(K:PySem.W.Frag)(Rc:Addr)(D:Ends):XK:=fun c dd H=>∃C d n,c=.ref C∧dd=some d∧pI K C∧PySem.W.exmOne K (.ref C) (.ref Rc)=some true∧H d=some (.xd [("number",.int n)])∧∀l,H l=none→D.rt (.ref l) (upd H l (.lst [.int n]))
noncomputable def Vs(K:PySem.W.Frag)(Rc:Addr)(tb:XK→TS):TS:=fun D σ H=>tb (wj K Rc D) { D with nx:=fun _ _=>False } σ H
theorem Gi{X:Cx}{Rc:Addr}{body:List Stmt}{Z x:Str}{i:Nat}{p1 p2 p3 p4 p5 hp pos:Pos}{tb:XK→TS}(calm:X.calm=true)(hN:X.N.Nodup)(hi:X.N[i]?=some x)(j:X.env.scope.names.lookup x=some .local)(hg:Gl X Z)(hm:X.mg Z=some (.ref Rc))
  (S:X.stack=X.env::X.outer) (ac:X.env.frame=some X.env.locals)
  (hb:∀(pn:List (Addr×Obj))(xe:Value→Shared→Prop)(E:XK),Throws (Ec X pn xe) E→zQ (Ec X pn xe) body (tb E))
  (ai:∀e E,attributeBase (.Name x p4) "number" (Qz X e E).env (eval (.Name x p4) (Qz X e E).env)=eval (.Name x p4) (Qz X e E).env:=by intro _ _;rfl) (aw:(Z==("__debug__" : Str))=false:=by decide) (al:(x==("__debug__" : Str))=false:=by decide) (af:(x==("__classdict__" : Str))=false:=by decide) :
  PS X (.Try body [.ExceptHandler (some (.Name Z p1)) (some x) [.Return (some (.List [.Attribute (.Name x p4) "number" p3] p2)) p5] hp] [] [] pos) (Vs X.K Rc tb):=by
 intro pins s σ H D I h
 refine wpAny_Try_except ?_
 refine wpAny_mono (hb (X.pn++pins) (fun v s1=>wpAny (model X.prog X.w) X.A (noteFrame v X.env) (fun _ s2=>wpAny (model X.prog X.w) X.A (setFlight v none) (fun _ s3 =>
   wpAny (model X.prog X.w) X.A (handleBy v X.env [.ExceptHandler (some (.Name Z p1)) (some x) [.Return (some (.List [.Attribute (.Name x p4) "number" p3] p2)) p5] hp]) (SP X pins D) X.xe s3) X.xe s2) X.xe s1)
  (wj X.K Rc D) ?_ [] s σ H _ (PX I _) h) (fun f s1 q=>?_) fun _ _ z=>z
 ·-- an exception comes
  intro qs σ1 H1 s1 m e C d J aa ae F hE
  have L:=xm J
  have ax:Inv X pins σ1 H1 s1:=L
  obtain⟨as,g1,g2,g3,g4,g5,g6⟩:=F.ground (frs X.stack) L.jc
  have G:∀p∈X.pn++pins,p.1<m:=fun p hp=>ae p (List.mem_append_left _ hp)
  have O:=PySem.W.funFrames_hide L.stack fun env he b hb=>g1 b (List.mem_filterMap.mpr ⟨env,he,hb⟩)
  have frames:X.A.frames=some (X.env::X.outer):=by rw[←S];exact L.ok.frames
  rw[S]at O
  show wpAny _ _ (noteFrame (.ref e) X.env) _ _ _
  refine xn (base:=PySem.W.hideAll s1.heap as) frames O ac g5 (fun b o q=>PySem.W.of_hideAll _ q) (PySem.W.hideAll_none _ g2) fun h2 S2=>?_
  refine l_ (s:={ s1 with heap:=h2 }) S2 fun U S3=>?_
  rw[←S]at S3
  have I3:Inv X pins σ1 H1 { s1 with heap:=U }:=km L F aa G g3 g4 g6 S3
  have F3:zW m H1 U e C d:=F.wA L.hok (Nat.le_of_not_lt fun z=>by
   have:=F.new
   obtain⟨⟨oe,_,x1,_⟩,_,_⟩:=(show cV X.prog X.w H1 s1.heap e (Mf e C d)from L.hok e _ F.ex)
   exact absurd (ic (ic z this) (Nat.le_of_lt (Heap.lt_size x1))) (Nat.lt_irrefl _)) S3
  obtain⟨C',d',n,e1,e2,hc,hx,hd,k⟩:=hE
  cases e1
  cases e2
  have J3:=Ea I3 e (fun _ _=>False)
  refine wpAny_handleBy_cons (codeAny_handlers_test (lU (X:=Qz X e fun _ _=>False) J3 hg hm ?_ aw)) (by intro q;cases q)
  obtain⟨oe,vs,x1,x2,x3,x4⟩:=(show cV X.prog X.w H1 U e (Mf e C d)from I3.hok e _ F3.ex).1
  have LT:PySem.W.Looks (model X.prog X.w) U (typeOf (.ref e)) (.ref C):=x2▸(PySem.W.Looks.ld x1).andThen .now
  refine PySem.W.Looks.here (s:={ s1 with heap:=U }) (PySem.W.exm_one I3.oZ LT hx) ?_
  refine codeAny_handlers_suite_as ?_
  obtain⟨bs,k1,k2,k3,k4,k5,k6⟩:=F3.ground (frs X.stack) I3.jc
  have ar:=PySem.W.funFrames_hide I3.stack fun env he b hb=>k1 b (List.mem_filterMap.mpr ⟨env,he,hb⟩)
  obtain⟨T,y1,y2,y3,y4,y5⟩:=S3.ex
  have again:∀(A':Around)(Q':Unit→Shared→Prop)(E':Value→Shared→Prop),(∀h4,Inv X pins σ1 H1 { s1 with heap:=h4 }→Q' () { s1 with heap:=h4 })→wpAny (model X.prog X.w) A' (setFlight (.ref e) none) Q' E' { s1 with heap:=U }:=fun A' Q' E' hq=>by
   refine l_ (s:={ s1 with heap:=U }) (base:=PySem.W.hideAll s1.heap as) (h0:=s1.heap) S3 fun h4 S4=>hq h4 ?_
   exact km L F aa G g3 g4 g6 S4
  refine again _ _ _ fun h4 I4=>?_
  have J4:=Ea I4 e (fun _ _=>False)
  refine tX (X:=Qz X e fun _ _=>False) (i:=i) (v:=.ref e) J4 hN hi (.inl j) rfl (fun s5 J5=>?_) (.inr j)
  have body:zQ (Qz X e fun _ _=>False) [.Return (some (.List [.Attribute (.Name x p4) "number" p3] p2)) p5] _:=ao (aV (bT (aj (Oc (Km (i:=i) hi (.inl j) al af) (ai e _)) au)))
  have hiσ:i<σ1.length:=by rw[I4.len];exact(hZ.mp hi).1
  refine wpAny_mono (body pins s5 (σ1.set i (some (.ref e))) H1 { nx:=fun _ _=>False,rt:=D.rt } J5 ⟨_,List.getElem?_set_self hiσ,e,C,d,n,rfl,F.ex,hd,hc,by show 1≤sizeLine;decide,fun l hl=>k l hl⟩) (fun f s6 Y=>?_) fun _ _ z=>False.elim z
  cases f with
  | next=>obtain⟨_,_,_,z⟩:=Y;exact False.elim z
  | brk=>obtain⟨_,_,_,z⟩:=Y;exact False.elim z
  | cont=>obtain⟨_,_,_,z⟩:=Y;exact False.elim z
  | ret u =>
   obtain⟨v,σ6,H6,J6,rv,Y⟩:=Y
   have I6:Inv X pins σ6 H6 s6:=R7 (hd:=I.ok.hd) J6
   obtain⟨m6,av,_⟩:=id I6.loc
   refine wpAny_nameGoes j av (by rw[I6.ok.kind];rfl) fun h7 m7 ag ah=>?_
   exact⟨v,_,H6,Bw I6 ag ah,rv,Y⟩
 ·-- no exception
  cases f with
  | next=>obtain⟨_,_,_,z⟩:=q;exact False.elim z
  | brk=>obtain⟨σ',H',J,z⟩:=q;exact⟨σ',H',xm J,z⟩
  | cont=>obtain⟨σ',H',J,z⟩:=q;exact⟨σ',H',xm J,z⟩
  | ret u=>obtain⟨v,σ',H',J,r,z⟩:=q;exact⟨v,σ',H',xm J,r,z⟩
end XL
end
section
namespace XL
open PySem
section
variable {prog:Program} {w:World} {A:Around} {R:Result→Shared→Prop} {I:Addr} {fp wr:List Addr} {n:Nat} {P:Nat→Value→Prop} {St:Nat→Heap→Prop}
theorem GF(W:Walks prog w A.in1 I fp wr n P St)(bt:Nat→Nat→Bool)(af:CmpOf prog w A.in1 .Gt P bt)(S:Addr)(ac:S∉fp)(dn:Str)(dv:Value) :
  ∀(k j:Nat)(s:Shared)(old:List Value)(c:Nat),n-j=k→j≤n→St j s.heap→((old=[]∧j=0)∨∃vb m,j=m+1∧old=[vb,vb]∧P (argBest bt m) vb) →
  s.heap.get? S=some { cls:=.type "list",dict:=none,data:=.seq old.toArray c,slots:=#[] } →
  (∀v h' tk,((n=0∧v=dv)∨(0<n∧P (argBest bt (n-1)) v))→(∀b o,b∉wr→b≠S→s.heap.get? b=some o→h'.get? b=some o)→R (.ok (.ret v)) { s with heap:=h',toks:=tk }) →
  codeAny (model prog w) A (.builtin "max.loop" ⟨[.ref I,.none,.ref S],[(dn,dv)]⟩) R s:=by
 have ah:S∉wr:=fun h=>ac (W.sub _ h)
 have nm:(toString "max"++toString ".loop" : String) = "max.loop":=by decide
 intro k
 induction k with
 | zero =>
  intro j s old c hk hj ae ho hS hR
  obtain rfl:j=n:=by omega
  refine codeAny_builtin F.entry_max_loop ?_
  rw[Around.under_plainId F.plain_max_loop _]
  show wpAny _ A.in1 (seqItems? (.ref S)>>=_) _ _ s
  refine wpAny_bind (wpAny_seqItems hS rfl ?_)
  show wpAny _ A.in1 (tryCatch (pyNext (.ref I)) _>>=_) _ _ s
  refine wpAny_bind (wpAny_tryCatch (W.done s _ _ ae fun h' tk L=>?_))
  rcases ho with⟨rfl,rfl⟩ | ⟨vb,m,rfl,rfl,hP⟩
  ·refine wpAny_bind (wpAny_rule (wpAny_pure ?_))
   exact hR dv _ tk (.inl ⟨rfl,rfl⟩) fun b o G _ e=>L b o G e
  ·have U:=L S _ ah hS
   show wpAny _ A.in1 (updateSeq S (fun _=>#[])>>=_) _ _ _
   refine wpAny_bind (wpAny_updateSeq U rfl (wpAny_bind (wpAny_letGo (wpAny_pure ?_))))
   exact hR vb _ tk (.inr ⟨by omega,hP⟩) fun b o G D e=>(Heap.get?_update_other _ _ (Ne.symm D)).trans (L b o G e)
 | succ k ih =>
  intro j s old c hk hj ae ho hS hR
  have ai:j<n:=by omega
  refine codeAny_builtin F.entry_max_loop ?_
  rw[Around.under_plainId F.plain_max_loop _]
  show wpAny _ A.in1 (seqItems? (.ref S)>>=_) _ _ s
  refine wpAny_bind (wpAny_seqItems hS rfl ?_)
  show wpAny _ A.in1 (tryCatch (pyNext (.ref I)) _>>=_) _ _ s
  refine wpAny_bind (wpAny_tryCatch (W.item j s _ _ ai ae fun v h' tk hP aa L=>?_))
  have U:=L S _ ah hS
  rcases ho with⟨rfl,rfl⟩ | ⟨vb,m,rfl,rfl,ag⟩
  ·show wpAny _ A.in1 (updateSeq S (fun _=>#[v,v])>>=_) _ _ _
   refine wpAny_bind (wpAny_updateSeq U rfl ?_)
   rw[nm]
   refine wpAny_pure ⟨plainId_quiet F.plain_max_loop _,ih 1 _ [v,v] _ (by omega) (by omega) (W.frame _ _ _ aa fun b G o e=>?_) (.inr ⟨v,0,rfl,rfl,hP⟩) (Heap.get?_update_self _ U rfl) fun v' Z O Y J=>?_⟩
   ·exact(Heap.get?_update_other _ _ (fun z:S=b=>ac (z▸G))).trans e
   ·exact hR v' Z O Y fun b o G D e=>J b o G D ((Heap.get?_update_other _ _ (Ne.symm D)).trans (L b o G e))
  ·show wpAny _ A.in1 (tryCatch (holding [v,v] (richCompare .Gt v vb>>=_)) _>>=_) _ _ _
   refine wpAny_bind (wpAny_tryCatch (wpAny_holding (wpAny_bind (af (m+1) (argBest bt m) v vb _ _ _ hP ag ?_))))
   refine wpAny_bind (wpAny_holding (wpAny_truthy_bool (wpAny_bind (wpAny_letGo (wpAny_pure ?_)))))
   cases G:bt (m+1) (argBest bt m)with
   | true =>
    simp only[if_true]
    refine wpAny_bind (wpAny_updateSeq U rfl (wpAny_bind (wpAny_letGo ?_)))
    rw[nm]
    refine wpAny_pure ⟨plainId_quiet F.plain_max_loop _,ih (m+2) _ [v,v] _ (by omega) (by omega) (W.frame _ _ _ aa fun b G o e=>?_) (.inr ⟨v,m+1,rfl,rfl,by simp only[argBest,G,if_true];exact hP⟩) (Heap.get?_update_self _ U rfl) fun v' Z O Y J=>?_⟩
    ·exact(Heap.get?_update_other _ _ (fun z:S=b=>ac (z▸G))).trans e
    ·exact hR v' Z O Y fun b o G D e=>J b o G D ((Heap.get?_update_other _ _ (Ne.symm D)).trans (L b o G e))
   | false =>
    simp only[Bool.false_eq_true,if_false]
    refine wpAny_bind (wpAny_letGo ?_)
    rw[nm]
    refine wpAny_pure ⟨plainId_quiet F.plain_max_loop _,ih (m+2) _ [vb,vb] c (by omega) (by omega) aa (.inr ⟨vb,m+1,rfl,rfl,by simp only[argBest,G,Bool.false_eq_true,if_false];exact ag⟩) U fun v' Z O Y J=>?_⟩
    exact hR v' Z O Y fun b o G D e=>J b o G D (L b o G e)
end
theorem Hq(a d:Value):argsOk "max" ⟨[a],[("default",d)]⟩:=by unfold argsOk;kernel_rfl
section
variable {prog:Program} {w:World} {A:Around} {E:Value→Shared→Prop} {s:Shared} {l:Addr} {xs:Array (Int×Tok)}
theorem GQ{Q:Value→Shared→Prop}{dv:Value}(Y:A.handled=none)(U:s.heap.IsList l (intItems xs))
  (h:∀v h' tk,((xs.size=0∧v=dv)∨(0<xs.size∧(intItems xs)[argBest (fun i j=>decide (numAt xs i>numAt xs j)) (xs.size-1)]?=some v))→(∀b o,s.heap.get? b=some o→h'.get? b=some o)→Q v { s with heap:=h',toks:=tk }) :
  wpAny (model prog w) A (call (.builtin "max") [.ref l] [("default",dv)]) Q E s:=by
 have nm:(toString "max"++toString ".loop" : String) = "max.loop":=by decide
 refine wpAny_call (codeAny_call_builtin F.plain_max F.entry_max ?_)
 have fin:wpAny (model prog w) A.in1 (Builtin.«max» ⟨[.ref l],[("default",dv)]⟩) (fun fin s'=>match fin with
   | .done f=>(match(Except.ok f:Result)with | .ok (.ret v)=>Q v s' | .ok _=>False | .error e=>E e s')
   | .again L=>L.quiet=true∧codeAny (model prog w) A L (fun r s'=>match r with | .ok (.ret v)=>Q v s' | .ok _=>False | .error e=>E e s') s') E s:=by
  show wpAny _ A.in1 (Builtin.Builtins.bindParams "max" ["key","default"] 0 ⟨[],[("default",dv)]⟩>>=_) _ _ s
  refine wpAny_bind (wpAny_of_eq (show Builtin.Builtins.bindParams "max" ["key","default"] 0 ⟨[],[("default",dv)]⟩=pure [none,some dv]from rfl) ?_)
  refine wpAny_bind (wpAny_pure (wpAny_bind (iter_intList U fun s2 e st G J=>?_)))
  subst e
  refine wpAny_bind (wpAny_newObj_type ?_)
  rw[nm]
  have W:=Walks.list (prog:=prog) (w:=w) (A:=A.in1) Y s.heap.objs.size l J (intItems xs)
  refine wpAny_pure ⟨plainId_quiet F.plain_max_loop _,GF W (fun i j=>decide (numAt xs i>numAt xs j)) (CmpOf.ints_gt (numAt xs) fun _ _=>intItems_at) _ (fun S=>Nat.lt_irrefl _ (G _ S)) "default" dv _ 0 _ [] 0 rfl (Nat.zero_le _)
   (W.frame _ _ _ st fun b _ o e=>Heap.get?_push_of_some _ e) (.inl ⟨rfl,rfl⟩) (Heap.get?_push_size _ rfl) fun v h' tk hP O=>?_⟩
  refine h v h' tk (by simpa[intItems]using hP) (old_kept fun b o Z e=>O b o Z (i4 (Heap.lt_size e)) (Heap.get?_push_of_some _ e))
 simp only[checkBuiltinCall,F.kind_max]
 cases z:Manifest.signature? "max" with
 | none=>exact wpAny_pure fin
 | some sig =>
  have D:Bind.checkArgs "max" sig ⟨[.ref l],[("default",dv)]⟩=pure ():=by simpa only[argsOk,z]using Hq (.ref l) dv
  simp only[D]
  exact wpAny_pure fin
end
end XL
namespace XL
open PySem PySem.Spec PyProof.Rows L2
noncomputable def T3(K:PySem.W.Frag)(ta tk:TA):TE:=fun σ H Q=>ta σ H fun vs H1=>tk σ H1 fun zs H2=>∃(a:Addr)(ns:List Int)(d:Int),vs=[.ref a]∧zs=[.int d]∧bZ K H2 a (ns.map V.int)∧∀m,((ns=[]∧m=d)∨(m∈ns∧∀y∈ns,y≤m))→Q (.int m) H2
theorem Od{X:Cx}{e dx:Expr}{ta tk:TA}{p kp pos:Pos}(calm:X.calm=true)(hg:Gl X "max")(L:X.mg "max"=none)(ha:PA X [e] ta)(hk:PK X [⟨some "default",dx,kp⟩] tk)(D:starEach [e] X.env=[(false,eval e X.env)]:=by rfl) :
  PE X (.Call (.Name "max" p) [e] [⟨some "default",dx,kp⟩] pos) (T3 X.K ta tk):=by
 intro pins s σ H Q I h
 refine wpAny_Call_Name_kw (qe I hg L (u:=.builtin "max") (by decide +kernel) ?_ (by decide) (by decide))
 refine PyProof.Rows.callWith_kw ?_ (by rw[D];rfl) (by rw[D];rfl)
 refine cG (ha pos pins s σ H _ I h) fun us s1 ⟨vs,H1,I1,r1,q1⟩=>?_
 refine cG (hk pos pins s1 σ H1 _ I1 q1) fun ws s2 hz=>?_
 obtain⟨zs,H2,G,Z,a,ns,d,e1,e2,hs,Y⟩:=hz
 subst e1 e2
 obtain rfl:=Vals.Uk r1
 obtain⟨wd,rfl,td,rfl⟩:∃wd,ws=[wd]∧∃t,wd=Value.int d t:=by
  obtain⟨u,e,r⟩:=Vals.one Z
  exact⟨u,e,r⟩
 show wpAny _ _ (call (.builtin "max") [.ref a] [("default",Value.int d td)]) _ _ _
 obtain⟨its,rv,hl,hz⟩:=G.list hs
 have hi:=Vals.ints rv
 obtain⟨xs,e⟩:=hi.allInts.items
 have F:numsOf (intItems xs).toList=ns:=by rw[←e];exact hi.numsOf
 rw[nums_intItems]at F
 have z:xs.size=ns.length:=by rw[←F,ap,Array.length_toList]
 have S:s2.heap.IsList a (intItems xs):=by rw[←e];exact hl.isList
 refine GQ (G.ok.hd calm) S fun v h' tk J O=>?_
 have fin:∀m t,((ns=[]∧m=d)∨(m∈ns∧∀y∈ns,y≤m))→EP X pins σ Q (.int m t) { s2 with heap:=h',toks:=tk }:=fun m t L=>⟨.int m,H2,G.kept (t':=tk) O,⟨t,rfl⟩,Y m L⟩
 rcases J with⟨h0,rfl⟩ | ⟨h0,J⟩
 ·exact fin d td (.inl ⟨List.length_eq_zero_iff.mp (z.symm.trans h0),rfl⟩)
 ·obtain⟨t,rfl⟩:=intItems_at J
  obtain⟨h1,h2⟩:=argBest_gt (numAt xs) (xs.size-1)
  refine fin _ t (.inr ⟨?_,fun y U=>?_⟩)
  ·rw[numAt_eq,←F]
   exact PySem.getD_mem (by rw[ap,Array.length_toList];omega)
  ·rw[←F]at U
   obtain⟨j,hj,rfl⟩:=mem_getD U
   rw[ap,Array.length_toList]at hj
   rw[←numAt_eq]
   exact h2 j (by omega)
end XL
end
section
section
set_option maxHeartbeats 2000000
namespace L2
open PySem PySem.Spec PyProof.Rows
open PySem.W (WData Codec OpenSpec Well WellAll ReadsW ReadsAllW)
mutual
inductive Dw (K:PySem.W.Frag) (H:Hp):V→WData→Prop
 | non:Dw K H .non .none
 | bl (b:Bool):Dw K H (.bl b) (.bool b)
 | int (i:Int):Dw K H (.int i) (.int i)
 | str (x:Str):Dw K H (.str x) (.str x)
 | byt (b:Array UInt8):Dw K H (.byt b) (.bytes b.toList)
 | lst {a:Addr} {xs:List V} {ds:List WData}:bZ K H a xs→jE K H xs ds→Dw K H (.ref a) (.list ds)
 | tup {a:Addr} {xs:List V} {ds:List WData}:cR K H a xs→jE K H xs ds→Dw K H (.ref a) (.tuple ds)
inductive jE (K:PySem.W.Frag) (H:Hp):List V→List WData→Prop
 | nil:jE K H [] []
 | cons {v:V} {vs:List V} {d:WData} {ds:List WData}:Dw K H v d→jE K H vs ds→jE K H (v::vs) (d::ds)
end
theorem Ej{K:PySem.W.Frag}{H:Hp}:∀ns:List Int,jE K H (ns.map V.int) (ns.map WData.int)
 | []=>.nil
 | n::r=>.cons (.int n) (Ej r)
theorem Eb{K:PySem.W.Frag}{H:Hp}:∀(ns:List Int)(xs:List V),jE K H xs (ns.map WData.int)→xs=ns.map V.int
 | [],xs,h=>by
  cases h
  rfl
 | n::r,xs,h=>by
  cases h with
  | cons h1 h2 =>
   cases h1
   rw[Eb r _ h2]<;>rfl
section
variable {P:Program} {w:World} {K:PySem.W.Frag} {H:Hp} {h:Heap} {R:PySem.W.WRecords} {cl:Str→Option Addr}
theorem Ra{a:Addr}{xs:List V}(hok:mY P w H h)(D:K.In h)(q:bZ K H a xs):∃(its:List Value)(o:Obj)(n:Nat),Vals xs its∧h.get? a=some o∧o.cls=.type "list"∧o.data=.seq its.toArray n:=by
 rcases q with q | ⟨o,its,n,e,z,_,hd,_,j⟩
 ·obtain⟨_,its,n,j,e⟩:=(show cV P w H h a (.lst xs)from q.ok hok)
  exact⟨its,_,n,j,e,rfl,rfl⟩
 ·exact⟨its.toList,o,n,j,D _ _ e,z,by simp[hd]⟩
theorem Q_{a:Addr}{xs:List V}(hok:mY P w H h)(D:K.In h)(q:cR K H a xs):∃(its:List Value)(o:Obj)(n:Nat),Vals xs its∧h.get? a=some o∧o.cls=.type "tuple"∧o.data=.seq its.toArray n:=by
 rcases q with q | ⟨o,its,n,e,j,hd,_,z⟩
 ·obtain⟨_,its,z,o,e,j,n,hd⟩:=(show cV P w H h a (.tup xs)from q.ok hok)
  exact⟨its,o,n,z,e,j,hd⟩
 ·exact⟨its.toList,o,n,z,D _ _ e,j,by simp[hd]⟩
mutual
theorem Dw.reads(hok:mY P w H h)(j:K.In h):∀(d:WData)(v:V)(u:Value),Dw K H v d→RelV v u→∃as,ReadsW R cl h u d as
 | .none,_,_,x,r=>by
  cases x
  cases r
  exact⟨_,ReadsW.none⟩
 | .bool b,_,_,x,r=>by
  cases x
  cases r
  exact⟨_,ReadsW.bool b⟩
 | .int i,_,_,x,r=>by
  cases x
  obtain⟨t,rfl⟩:=r
  exact⟨_,ReadsW.int i t⟩
 | .str s,_,_,x,r=>by
  cases x
  obtain⟨t,rfl⟩:=r
  exact⟨_,ReadsW.str s t⟩
 | .bytes b,_,_,x,r=>by
  cases x
  obtain⟨t,rfl⟩:=r
  exact⟨_,ReadsW.bytes _ t⟩
 | .list ds,_,_,x,r=>by
  cases x with
  | lst D F =>
   cases r
   obtain⟨its,o,n,L,G,J,hd⟩:=Ra hok j D
   obtain⟨as,z⟩:=Dw.readsAll hok j ds _ its F L
   exact⟨_,ReadsW.list G J hd z⟩
 | .tuple ds,_,_,x,r=>by
  cases x with
  | tup D F =>
   cases r
   obtain⟨its,o,n,L,G,J,hd⟩:=Q_ hok j D
   obtain⟨as,z⟩:=Dw.readsAll hok j ds _ its F L
   exact⟨_,ReadsW.tuple G J hd z⟩
 | .float _,_,_,x,_=>by cases x
 | .dict _,_,_,x,_=>by cases x
 | .bytearray _,_,_,x,_=>by cases x
 | .set _,_,_,x,_=>by cases x
 | .frozenset _,_,_,x,_=>by cases x
 | .obj _ _,_,_,x,_=>by cases x
theorem Dw.readsAll(hok:mY P w H h)(j:K.In h):∀(ds:List WData)(vs:List V)(us:List Value),jE K H vs ds→Vals vs us→∃as,ReadsAllW R cl h us ds as
 | [],_,_,x,r=>by
  cases x
  cases r
  exact⟨_,ReadsAllW.nil⟩
 | d::ds,_,_,x,r=>by
  cases x with
  | cons h1 h2 =>
   cases r with
   | cons z F =>
    obtain⟨as,G⟩:=Dw.reads hok j d _ _ h1 z
    obtain⟨bs,D⟩:=Dw.readsAll hok j ds _ _ h2 F
    exact⟨_,ReadsAllW.cons G D⟩
end
end
mutual
noncomputable def Dy:WData→Bool
 | .none=>true
 | .bool _=>true
 | .int _=>true
 | .str _=>true
 | .bytes _=>true
 | .list xs=>rD xs
 | .tuple xs=>rD xs
 | _=>false
noncomputable def rD:List WData→Bool
 | []=>true
 | x::r=>Dy x&&rD r
end
theorem yN{α:Type}{f:α→WData}(h:∀a,Dy (f a)=true):∀l:List α,rD (l.map f)=true
 | []=>rfl
 | x::r=>by
  show(Dy (f x)&&rD (r.map f))=true
  rw[h x,yN h r]<;>rfl
theorem jY:∀(c:Codec)(a:c.denote),Dy (c.enc a)=true
 | .unit,_=>rfl
 | .bool,_=>rfl
 | .int _ _,_=>rfl
 | .nat _ _,_=>rfl
 | .u8,_=>rfl
 | .bytes _ _,_=>rfl
 | .text _ _ _ _,_=>rfl
 | .list _ _ c,a=>yN (fun x=>jY c x) a
 | .pair c d,a=>by
  show(Dy (c.enc a.1)&&(Dy (d.enc a.2)&&true))=true
  rw[jY c a.1,jY d a.2]<;>rfl
 | .triple c d e,a=>by
  show(Dy (c.enc a.1)&&(Dy (d.enc a.2.1)&&(Dy (e.enc a.2.2)&&true)))=true
  rw[jY c a.1,jY d a.2.1,jY e a.2.2]<;>rfl
 | .option c,none=>rfl
 | .option c,some x=>jY c x
theorem vG:∀(j:List Codec)(a:Codec.denoteAll j),rD (Codec.encAll j a)=true
 | [],_=>rfl
 | c::j,a=>by
  show(Dy (c.enc a.1)&&rD (Codec.encAll j a.2))=true
  rw[jY c a.1,vG j a.2]<;>rfl
theorem nG:∀{xs:List WData}{d:WData},d∈xs→d.weight≤WData.weightAll xs
 | [],d,h=>absurd h (by simp)
 | x::r,d,h=>by
  show d.weight≤x.weight+1+WData.weightAll r
  rcases hU.mp h with e | m
  ·rw[e]
   omega
  ·have z:=nG m
   omega
noncomputable def toV:Value→V
 | .none=>.non
 | .bool b=>.bl b
 | .int i _=>.int i
 | .str x _=>.str x
 | .bytes b _=>.byt b
 | .ref a=>.ref a
 | _=>.non
noncomputable def Hu(A:List Addr):Value→Prop
 | .none=>True
 | .bool _=>True
 | .int _ _=>True
 | .str _ _=>True
 | .bytes _ _=>True
 | .ref a=>a∈A
 | _=>False
theorem Hu.mono{A B:List Addr}(h:∀a∈A,a∈B):∀{u:Value},Hu A u→Hu B u:=fun{u} x=>by
 cases u with
 | ref a=>exact h a x
 | none=>trivial
 | bool b=>trivial
 | int i t=>trivial
 | str s t=>trivial
 | bytes b t=>trivial
 | _=>exact False.elim x
theorem J2{A:List Addr}{u:Value}(x:Hu A u):RelV (toV u) u:=by
 cases u with
 | ref a=>rfl
 | none=>rfl
 | bool b=>rfl
 | int i t=>exact⟨t,rfl⟩
 | str s t=>exact⟨t,rfl⟩
 | bytes b t=>exact⟨t,rfl⟩
 | _=>exact False.elim x
theorem iD{A:List Addr}:∀{vs:List Value},(∀u∈vs,Hu A u)→Vals (vs.map toV) vs
 | [],_=>.nil
 | u::r,h=>.cons (J2 (h u (b' ..))) (iD fun x hx=>h x (am _ hx))
noncomputable def jH(h:Heap)(A:List Addr)(a:Addr):Prop:=∃vs:List Value,vs.length≤sizeLine∧(∀u∈vs,Hu A u) ∧
 (h.get? a=some { cls:=.type "list",data:=.seq vs.toArray }∨h.get? a=some { cls:=.type "tuple",data:=.seq vs.toArray })
theorem jH.mono{h:Heap}{A B:List Addr}{a:Addr}(k:∀a∈A,a∈B)(x:jH h A a):jH h B a:=by
 obtain⟨vs,h1,h2,z⟩:=x
 exact⟨vs,h1,fun u j=>(h2 u j).mono k,z⟩
theorem gP{P:Params}{h:Heap}:∀{vs:List Value}{ds:List WData},WellAll P h vs ds→vs.length=ds.length
 | _,_,.nil=>rfl
 | _,_,.cons _ b=>by
  show _+1=_+1
  rw[gP b]
theorem vp{P:Params}{h:Heap}{v:Value}{ds:List WData}(x:Well P h v (.list ds)):∃(a:Addr)(vs:List Value),v=.ref a∧h.get? a=some { cls:=.type "list",data:=.seq vs.toArray }∧WellAll P h vs ds:=by
 cases x with
 | list z j=>exact⟨_,_,rfl,z,j⟩
theorem tV{P:Params}{h:Heap}{v:Value}{ds:List WData}(x:Well P h v (.tuple ds)):∃(a:Addr)(vs:List Value),v=.ref a∧h.get? a=some { cls:=.type "tuple",data:=.seq vs.toArray }∧WellAll P h vs ds:=by
 cases x with
 | tuple z j=>exact⟨_,_,rfl,z,j⟩
theorem vq{P:Params}{h:Heap}{us:List Value}{d:WData}{ds:List WData}(x:WellAll P h us (d::ds)):∃(v:Value)(vs:List Value),us=v::vs∧Well P h v d∧WellAll P h vs ds:=by
 cases x with
 | cons a b=>exact⟨_,_,rfl,a,b⟩
theorem DY{n:Nat}(h:n≤1048576):n≤sizeLine:=iq h (by decide)
section
variable {P:Params} {h:Heap}
mutual
theorem Mx:∀(d:WData)(v:Value),Well P h v d→Dy d=true→d.weight≤1048576→∃A:List Addr,Hu A v∧∀a∈A,jH h A a
 | .none,_,x,_,_=>by
  cases x
  exact⟨[],trivial,fun a m=>absurd m (by simp)⟩
 | .bool b,_,x,_,_=>by
  cases x
  exact⟨[],trivial,fun a m=>absurd m (by simp)⟩
 | .int i,_,x,_,_=>by
  cases x
  exact⟨[],trivial,fun a m=>absurd m (by simp)⟩
 | .str s,_,x,_,_=>by
  cases x
  exact⟨[],trivial,fun a m=>absurd m (by simp)⟩
 | .bytes b,_,x,_,_=>by
  cases x
  exact⟨[],trivial,fun a m=>absurd m (by simp)⟩
 | .list ds,_,x,p,z=>by
  obtain⟨a,vs,rfl,G,j⟩:=vp x
  have F:WData.weightAll ds≤1048576:=z
  obtain⟨A,h1,h2⟩:=pG ds _ j p fun d hd=>iq (nG hd) F
  have k:∀b∈A,b∈a::A:=fun b D=>am _ D
  refine⟨a::A,b' ..,fun b D=>?_⟩
  rcases hU.mp D with e | m
  ·rw[e]
   exact⟨vs,DY (by rw[gP j];exact iq (PySem.W.length_le_weightAllW ds) F),fun u J=>(h1 u J).mono k,.inl G⟩
  ·exact(h2 b m).mono k
 | .tuple ds,_,x,p,z=>by
  obtain⟨a,vs,rfl,G,j⟩:=tV x
  have F:WData.weightAll ds≤1048576:=z
  obtain⟨A,h1,h2⟩:=pG ds _ j p fun d hd=>iq (nG hd) F
  have k:∀b∈A,b∈a::A:=fun b D=>am _ D
  refine⟨a::A,b' ..,fun b D=>?_⟩
  rcases hU.mp D with e | m
  ·rw[e]
   exact⟨vs,DY (by rw[gP j];exact iq (PySem.W.length_le_weightAllW ds) F),fun u J=>(h1 u J).mono k,.inr G⟩
  ·exact(h2 b m).mono k
 | .float _,_,_,p,_=>Bool.noConfusion (show false=true from p)
 | .dict _,_,_,p,_=>Bool.noConfusion (show false=true from p)
 | .bytearray _,_,_,p,_=>Bool.noConfusion (show false=true from p)
 | .set _,_,_,p,_=>Bool.noConfusion (show false=true from p)
 | .frozenset _,_,_,p,_=>Bool.noConfusion (show false=true from p)
 | .obj _ _,_,_,p,_=>Bool.noConfusion (show false=true from p)
theorem pG:∀(ds:List WData)(vs:List Value),WellAll P h vs ds→rD ds=true→(∀d∈ds,d.weight≤1048576)→∃A:List Addr,(∀u∈vs,Hu A u)∧∀a∈A,jH h A a
 | [],_,x,_,_=>by
  cases x
  exact⟨[],fun u m=>absurd m (by simp),fun a m=>absurd m (by simp)⟩
 | d::ds,_,x,p,z=>by
  obtain⟨v,vs,rfl,x1,x2⟩:=vq x
  have q:Dy d=true∧rD ds=true:=Bool.and_eq_true_iff.mp p
  obtain⟨A,a1,a2⟩:=Mx d v x1 q.1 (z d (b' ..))
  obtain⟨B,L,G⟩:=pG ds vs x2 q.2 fun e O=>z e (am _ O)
  have F:∀b∈A,b∈A++B:=fun b j=>List.mem_append.mpr (.inl j)
  have D:∀b∈B,b∈A++B:=fun b j=>List.mem_append.mpr (.inr j)
  refine⟨A++B,fun u J=>?_,fun b j=>?_⟩
  ·rcases hU.mp J with e | m
   ·rw[e]
    exact a1.mono F
   ·exact(L u m).mono D
  ·rcases List.mem_append.mp j with m | m
   ·exact(a2 b m).mono F
   ·exact(G b m).mono D
end
end
noncomputable def P_(o:Obj):Option HO:=match o.data with
 | .seq vs _=>if(o.cls==Value.type "list")=true then some (.frz o (.lst (vs.toList.map toV)))else some (.frz o (.tup (vs.toList.map toV)))
 | _=>none
noncomputable def jy(K:PySem.W.Frag)(h:Heap)(A:List Addr):Hp:=fun b=>if b∈A then(if(K.lookup b).isNone=true then(h.get? b).bind P_ else none)else none
noncomputable def Fe(H:Hp):Prop:=∀b,H b=none∨∃o u,H b=some (.frz o u)
theorem zp(vs:List Value):P_ { cls:=.type "list",data:=.seq vs.toArray }=some (.frz { cls:=.type "list",data:=.seq vs.toArray } (.lst (vs.map toV))):=by
 show(if(Value.type "list"==Value.type "list")=true then some (HO.frz { cls:=.type "list",data:=.seq vs.toArray } (.lst (vs.toArray.toList.map toV)))else some (HO.frz { cls:=.type "list",data:=.seq vs.toArray } (.tup (vs.toArray.toList.map toV))))=_
 rw[j4 (beq_self_eq_true _)]
theorem zm(vs:List Value):P_ { cls:=.type "tuple",data:=.seq vs.toArray }=some (.frz { cls:=.type "tuple",data:=.seq vs.toArray } (.tup (vs.map toV))):=by
 show(if(Value.type "tuple"==Value.type "list")=true then some (HO.frz { cls:=.type "tuple",data:=.seq vs.toArray } (.lst (vs.toArray.toList.map toV)))else some (HO.frz { cls:=.type "tuple",data:=.seq vs.toArray } (.tup (vs.toArray.toList.map toV))))=_
 rw[js (by decide)]
section
variable {P:Program} {w:World} {K:PySem.W.Frag} {h:Heap} {A:List Addr}
theorem tL{b:Addr}{o:Obj}(z:b∈A)(j:K.lookup b=none)(e:h.get? b=some o):jy K h A b=P_ o:=by
 unfold jy
 rw[j4 z,j,j4 (show(none:Option Obj).isNone=true from rfl),e]<;>rfl
theorem O8{b:Addr}{u:HO}(q:jy K h A b=some u):b∈A∧K.lookup b=none:=by
 unfold jy at q
 by_cases j:b∈A
 ·rw[j4 j]at q
  cases z:K.lookup b with
  | none=>exact⟨j,rfl⟩
  | some o =>
   rw[z,js (by simp)]at q
   cases q
 ·rw[js j]at q
  cases q
theorem tK(F:∀a∈A,jH h A a){b:Addr}{u:HO}(q:jy K h A b=some u):K.lookup b=none∧∃vs:List Value,vs.length≤sizeLine∧(∀u∈vs,Hu A u) ∧
    ((h.get? b=some { cls:=.type "list",data:=.seq vs.toArray }∧u=.frz { cls:=.type "list",data:=.seq vs.toArray } (.lst (vs.map toV))) ∨
     (h.get? b=some { cls:=.type "tuple",data:=.seq vs.toArray }∧u=.frz { cls:=.type "tuple",data:=.seq vs.toArray } (.tup (vs.map toV)))):=by
  obtain⟨z,j⟩:=O8 q
  obtain⟨vs,h1,h2,D⟩:=F b z
  refine⟨j,vs,h1,h2,?_⟩
  rcases D with e | e
  · rw[tL z j e,zp]at q
    exact .inl ⟨e,(Option.some.inj q).symm⟩
  · rw[tL z j e,zm]at q
    exact .inr ⟨e,(Option.some.inj q).symm⟩
theorem Hr(j:∀a∈A,jH h A a):Fe (jy K h A):=fun b=>by
 cases q:jy K h A b with
 | none=>exact .inl rfl
 | some u =>
  obtain⟨_,vs,_,_,⟨_,e⟩ | ⟨_,e⟩⟩:=tK j q
  ·exact .inr ⟨_,_,by rw[e]⟩
  ·exact .inr ⟨_,_,by rw[e]⟩
theorem Qu(j:∀a∈A,jH h A a):mY P w (jy K h A) h:=fun b u q=>by
 obtain⟨_,vs,h1,h2,⟨e,rfl⟩ | ⟨e,rfl⟩⟩:=tK j q
 ·exact⟨e,by rw[ap];exact h1,vs,_,iD h2,e⟩
 ·exact⟨e,by rw[ap];exact h1,vs,iD h2,_,e,rfl,_,rfl⟩
theorem rZ{c j:Value}{vs us:List Value}(e:(some { cls:=c,data:=.seq vs.toArray }:Option Obj)=some { cls:=j,data:=.seq us.toArray }):c=j∧vs=us:=by
 have e1:=Option.some.inj e
 have e2:c=j:=congrArg Obj.cls e1
 have e3:Data.seq vs.toArray=Data.seq us.toArray:=congrArg Obj.data e1
 injection e3 with D
 refine⟨e2,?_⟩
 have z:=congrArg Array.toList D
 simpa using z
theorem Wi(F:K.In h)(J:∀a∈A,jH h A a){a:Addr}{vs:List Value}(z:a∈A)(e:h.get? a=some { cls:=.type "list",data:=.seq vs.toArray }):(∀u∈vs,Hu A u)∧bZ K (jy K h A) a (vs.map toV):=by
 obtain⟨us,h1,h2,D⟩:=J a z
 have G:us=vs:=by
  rcases D with q | q
  ·rw[e]at q
   exact(rZ q).2.symm
  ·rw[e]at q
   exact absurd (Value.type.inj (rZ q).1) (by decide)
 subst G
 refine⟨h2,?_⟩
 cases j:K.lookup a with
 | none=>exact .inl (.inr ⟨_,by rw[tL z j e,zp]⟩)
 | some o =>
  have e2:=F a o j
  rw[e]at e2
  obtain rfl:=Option.some.inj e2
  exact .inr ⟨_,us.toArray,_,j,rfl,rfl,rfl,by rw[ib];exact h1,by simpa using iD h2⟩
theorem Wh(F:K.In h)(J:∀a∈A,jH h A a){a:Addr}{vs:List Value}(z:a∈A)(e:h.get? a=some { cls:=.type "tuple",data:=.seq vs.toArray }):(∀u∈vs,Hu A u)∧cR K (jy K h A) a (vs.map toV):=by
 obtain⟨us,h1,h2,D⟩:=J a z
 have G:us=vs:=by
  rcases D with q | q
  ·rw[e]at q
   exact absurd (Value.type.inj (rZ q).1) (by decide)
  ·rw[e]at q
   exact(rZ q).2.symm
 subst G
 refine⟨h2,?_⟩
 cases j:K.lookup a with
 | none=>exact .inl (.inr ⟨_,by rw[tL z j e,zm]⟩)
 | some o =>
  have e2:=F a o j
  rw[e]at e2
  obtain rfl:=Option.some.inj e2
  exact .inr ⟨_,us.toArray,_,j,rfl,rfl,by rw[ib];exact h1,by simpa using iD h2⟩
mutual
theorem Sy{O:Params}(D:K.In h)(F:∀a∈A,jH h A a):∀(d:WData)(v:Value),Well O h v d→Dy d=true→Hu A v→Dw K (jy K h A) (toV v) d
 | .none,_,x,_,_=>by
  cases x
  exact .non
 | .bool b,_,x,_,_=>by
  cases x
  exact .bl b
 | .int i,_,x,_,_=>by
  cases x
  exact .int i
 | .str s,_,x,_,_=>by
  cases x
  exact .str s
 | .bytes b,_,x,_,_=>by
  cases x
  have z:=Dw.byt (K:=K) (H:=jy K h A) b.toArray
  exact z
 | .list ds,_,x,p,L=>by
  obtain⟨a,vs,rfl,J,j⟩:=vp x
  obtain⟨h2,G⟩:=Wi D F L J
  exact .lst G (xO D F ds _ j p h2)
 | .tuple ds,_,x,p,L=>by
  obtain⟨a,vs,rfl,J,j⟩:=tV x
  obtain⟨h2,G⟩:=Wh D F L J
  exact .tup G (xO D F ds _ j p h2)
 | .float _,_,_,p,_=>Bool.noConfusion (show false=true from p)
 | .dict _,_,_,p,_=>Bool.noConfusion (show false=true from p)
 | .bytearray _,_,_,p,_=>Bool.noConfusion (show false=true from p)
 | .set _,_,_,p,_=>Bool.noConfusion (show false=true from p)
 | .frozenset _,_,_,p,_=>Bool.noConfusion (show false=true from p)
 | .obj _ _,_,_,p,_=>Bool.noConfusion (show false=true from p)
theorem xO{F:Params}(z:K.In h)(D:∀a∈A,jH h A a):∀(ds:List WData)(vs:List Value),WellAll F h vs ds→rD ds=true→(∀u∈vs,Hu A u)→jE K (jy K h A) (vs.map toV) ds
 | [],_,x,_,_=>by
  cases x
  exact .nil
 | d::ds,_,x,p,j=>by
  obtain⟨v,vs,rfl,x1,x2⟩:=vq x
  have q:Dy d=true∧rD ds=true:=Bool.and_eq_true_iff.mp p
  exact .cons (Sy z D d v x1 q.1 (j _ (b' ..))) (xO z D ds vs x2 q.2 fun u m=>j u (am _ m))
end
end
theorem Fy{P:Program}{w:World}{K:PySem.W.Frag}{mg mb:Str→Option Value}{CX:Ff}{k:Nat}{fa:Addr}{fd:FuncData}{ps:List Str}{sp:Sp}{s₁:Shared}{j:List Value}{ds:List WData}{R:PySem.W.WRecords}{cl:Str→Option Addr}{d0:WData}
  (KX:K.In s₁.heap) (ac:s₁.heap.Ns mainGlobals mg) (hb:s₁.heap.Ns builtinsNs mb) (ah:∀x:Str,x ≠ "__name__"→mb x=bootBuiltins x) (Z:s₁.heap.NoLimit) (hg:s₁.gens=#[])
  (O:WellAll w.params s₁.heap j ds) (Y:rD ds=true) (ai:∀d∈ds,d.weight≤1048576) (hr:bH k callerA)
  (F:∀base:Heap,K.In base→base.Ns mainGlobals mg→aF P w K mg base CX k fa fd ps sp) (L:∀(s:Shared)(us:List Value),us.length=ps.length→BindsTo s fd ⟨us,[]⟩ (ps.zip us)) (S:ds.length=ps.length)
  (ae:∀(H:Hp)(xs:List V),Fe H→jE K H xs ds→sp xs H (fun v H'=>Dw K H' v d0) fun _ _ _=>False)
  (ag:∀H e s',CX [] H s₁ (fun _ _ _=>False) e s'→False) :
  codeAny (model P w) callerA (.call (.ref fa) ⟨j,[]⟩) (fun r s'=>∃u as,r=.ok (.ret u)∧ReadsW R cl s'.heap u d0 as∧OldK s₁.heap s'.heap∧s'.os=s₁.os∧AllBare s'.gens) s₁:=by
 obtain⟨A,ho,ar⟩:=pG ds j O Y ai
 have hO:Fe (jy K s₁.heap A):=Hr ar
 have hok:mY P w (jy K s₁.heap A) s₁.heap:=Qu ar
 have hS:=xO KX ar ds j O Y ho
 have hV:=iD ho
 have hK:∀b u,jy K s₁.heap A b=some u→K.lookup b=none:=fun b u q=>(tK ar q).1
 have U:∀{b:Addr}{o:Obj}{es:Array DictEntry}{ep:Nat},s₁.heap.get? b=some o→o.data=.dict es ep→jy K s₁.heap A b=none:=fun{b o es ep} e d=>by
  cases q:jy K s₁.heap A b with
  | none=>rfl
  | some u =>
   obtain⟨_,vs,_,_,⟨e2,_⟩ | ⟨e2,_⟩⟩:=tK ar q
   ·rw[e2]at e
    cases e
    have d':Data.seq vs.toArray _=Data.dict es ep:=d
    cases d'
   ·rw[e2]at e
    cases e
    have d':Data.seq vs.toArray _=Data.dict es ep:=d
    cases d'
 generalize jy K s₁.heap A=H at hO hok hS hK U
 have D:∀{b:Addr}{o:Obj},s₁.heap.get? b=some o→H b=none→(xG s₁.heap H).get? b=some o:=fun e n=>Lz e n
 have G:∀{b:Addr}{m:Str→Option Value},s₁.heap.Ns b m→(xG s₁.heap H).Ns b m:=fun{b m} ⟨o,es,ep,e,d,r⟩=>⟨o,es,ep,D e (U e d),d,r⟩
 have nK:∀b o,K.lookup b=some o→H b=none:=fun b o e=>by
  cases q:H b with
  | none=>rfl
  | some u =>
   rw[hK b u q]at e
   cases e
 have aa:K.In (xG s₁.heap H):=fun b o e=>D (KX b o e) (nK b o e)
 have hM:Mod K mg (xG s₁.heap H):=⟨aa,G ac,⟨mb,G hb,ah⟩,let⟨mc,h1,h2⟩:=Z;⟨mc,G h1,h2⟩⟩
 have e0:CV P w K mg (xG s₁.heap H) callerA [] s₁ H:=⟨rfl,hM,fun b o e=>O7 e,Nat.le_of_eq (G_ _ _),trivial,fun b hb=>absurd (show b∈([]:List Addr)from hb) (by simp),hok,.of_eq hg⟩
 have hl:j.length=ps.length:=by rw[gP O];exact S
 refine codeAny_mono ((F _ aa (G ac)).run callerA [] s₁ H ⟨j,[]⟩ j (j.map toV) _ _ hr e0 (L s₁ j hl) hV (ae H _ hO hS)) fun r s' x=>?_
 cases r with
 | error e=>exact(ag H e s' x).elim
 | ok fl =>
  cases fl with
  | next=>exact False.elim x
  | brk=>exact False.elim x
  | cont=>exact False.elim x
  | ret u =>
   obtain⟨v,H',os,bare,un,J,r',q⟩:=x
   have kept:∀b o,s₁.heap.get? b=some o→s'.heap.get? b=some o:=fun b o e=>by
    cases q2:H b with
    | none=>exact un.keep b o e q2 (by intro z;exact absurd (show b∈([]:List Addr)from z) (by simp)) (by simp)
    | some u2 =>
     rcases hO b with z | ⟨ob,u3,z⟩
     ·rw[q2]at z
      cases z
     ·have z2:=un.frzs b ob _ z
      obtain⟨e1,_⟩:=hok b _ z
      obtain⟨e2,_⟩:=J b _ z2
      rw[e]at e1
      cases e1
      exact e2
   have af:K.In s'.heap:=fun b o e=>kept b o (KX b o e)
   obtain⟨as,al⟩:=Dw.reads (R:=R) (cl:=cl) J af d0 v u q r'
   exact⟨u,as,rfl,al,OldK.of_keep kept,os,bare⟩
theorem uE{ds:List WData}(h:WData.layableAll ds=true):∀d∈ds,d.weight≤1048576:=fun d hd =>
 (PySem.W.layableW_iff.mp (j6.mp h d hd)).2.2
theorem uO:∀(j:List Codec)(a:Codec.denoteAll j),(Codec.encAll j a).length=j.length
 | [],_=>rfl
 | c::j,a=>by
  show(Codec.encAll j a.2).length+1=j.length+1
  rw[uO j a.2]
theorem Fi{r:OpenSpec}{k:Nat}{q:Program}{D:List Str}{XP:(Str→Option Value)→Heap→Prop}{YP:World→Heap→Prop}{d:DefRec}{K:Params→PySem.W.Frag}{CX:World→Ff}{ps:List Str}{sp:World→Sp}
  (j:r.wellSaid=true) (al:d.params.defaults=[]) (J:r.args.length=ps.length) (hr:bH k callerA)
  (hY:∀(w:World)(h:Heap),YP w h→(K w.params).In h)
  (F:∀(w:World)(mg:Str→Option Value)(fa:Addr)(h:Heap),YP w h→(K w.params).In h→h.Ns mainGlobals mg→mg d.name=some (.ref fa) →
   ∃fd:FuncData,(∀(s:Shared)(us:List Value),us.length=ps.length→BindsTo s fd ⟨us,[]⟩ (ps.zip us)) ∧
    ∀base:Heap,(K w.params).In base→base.Ns mainGlobals mg→aF r.prog w (K w.params) mg base (CX w) k fa fd ps (sp w))
  (U:∀(w:World)(H:Hp)(xs:List V)(a:Codec.denoteAll r.args),Fe H→Codec.withinAll r.args a=true→Codec.app r.args r.asked a=true→jE (K w.params) H xs (Codec.encAll r.args a) →
   sp w xs H (fun v H'=>Dw (K w.params) H' v (r.ret.enc (Codec.app r.args r.f a))) fun _ _ _=>False)
  (Z:∀(w:World)(H:Hp)(s:Shared)(e:Value)(s':Shared),CX w [] H s (fun _ _ _=>False) e s'→False) :
  PySem.W.WalkOS q D XP YP r d [] (fun f vs=>PySem.call f vs):=by
 intro w s_0 s₁ mg mb G Y fa o pm cd doc dV kV ho hd ai hD aa hg args af as L O ah ac ag
 obtain⟨a,e1,e2⟩:=PySem.W.os_pre_some L
 obtain⟨e3,S⟩:=Codec.encAll_of_decAll r.args args a e1
 subst e3
 have KX:=hY w _ Y
 obtain⟨fd,hb,hF⟩:=F w mg fa _ Y KX G.T.g aa
 refine PySem.W.enter_call (codeAny_mono (Fy (R:=[]) (cl:=classAt s_0.heap) (d0:=r.ret.enc (Codec.app r.args r.f a)) KX G.T.g G.T.b G.T.builtins G.T.nolimit hg ac (vG _ _) (uE O) hr hF hb (by rw[uO];exact J)
  (fun H xs hO hS=>U w H xs a hO S e2 hS) fun H e s'=>Z w H s₁ e s') fun r' s' hq=>?_)
 obtain⟨u,ae,rfl,h1,h2,h3,h4⟩:=hq
 exact⟨.inl ⟨u,_,ae,rfl,fun _=>rfl,h1,(OpenSpec.post_iff j S _ _).mpr rfl,fun z=>Bool.noConfusion (show false=true from z)⟩,h2,h3,h4⟩
end L2
end
end
section
set_option maxRecDepth 10000
namespace MX
open Vbdeaa (Exp Exps Un Bin Tok Text tokens token numberToken digit letter wordSign blank digitsValue text sg wd decimal shownQ proper small frac)
end MX
end
section
set_option maxRecDepth 10000
namespace MX
open Vbdeaa (Exp Exps Un Bin Tok Text tokens token text sg wd decimal shownQ proper unWord binSign binNeeds closed)
end MX
end
section
set_option maxRecDepth 10000
namespace MX
open Vbdeaa (Exp Exps Un Bin Tok Text Toks text sg wd unWord binSign binNeeds exp joins atom args peek isTok then_ give opens must joiner oneOf place)
noncomputable def M9(L:Nat):Prop:=L=1∨(L=2∨(L=5∨L=6))
theorem my{k d L:Nat}(j:M9 L)(t:Toks):exp (k+1) d L t=then_ (exp k d (L+1)) (fun a=>joins k d L a) t:=by
 rcases j with rfl | rfl | rfl | rfl<;>(rw[Vbdeaa.exp.eq_2];rfl)
theorem o7 {k d : Nat} (t : Toks) : exp (k + 1) d 4 t = then_ (exp k d 5) (fun a => fun r => match joiner 4 (peek r) with
        | some o=>then_ (exp k d 5) (fun b=>give (.bin o a b)) (r.drop 1)
        | none=>.ok (a,r)) t:=by rw[Vbdeaa.exp.eq_2];rfl
theorem mz{k d:Nat}(t:Toks):exp (k+1) d 8 t=then_ (atom k d) (fun a=>fun r=>if isTok r (sg "^")=true then(then_ (opens d) fun e=>then_ (exp k e 7) fun b=>give (.bin .pow a b)) r else .ok (a,r)) t:=by rw[Vbdeaa.exp.eq_2];rfl
theorem gw{t:Toks}{x:Tok}(h:peek t≠x):isTok t x=false:=by unfold Vbdeaa.isTok;exact beq_eq_false_iff_ne.mpr h
theorem jO{t:Toks}{x:Tok}(h:peek t=x):isTok t x=true:=by unfold Vbdeaa.isTok;exact beq_iff_eq.mpr h
theorem o6{k d:Nat}{t:Toks}(h:peek t≠wd "if"):exp (k+1) d 0 t=exp k d 1 t:=by
 rw[Vbdeaa.exp.eq_2]
 show(if(0:Nat)=0∧isTok t (wd "if")=true then _ else _)=_
 rw[gw h,js (by simp)];rfl
theorem mj{k d:Nat}{t:Toks}(h:peek t≠wd "not"):exp (k+1) d 3 t=exp k d 4 t:=by
 rw[Vbdeaa.exp.eq_2]
 show(if(3:Nat)=0∧_ then _ else if(3:Nat)=3∧isTok t (wd "not")=true then _ else _)=_
 rw[js (by omega),gw h,js (by simp)];rfl
theorem mq{k d:Nat}{t:Toks}(h:peek t≠sg "-"):exp (k+1) d 7 t=exp k d 8 t:=by
 rw[Vbdeaa.exp.eq_2]
 show(if(7:Nat)=0∧_ then _ else if(7:Nat)=3∧_ then _ else if(7:Nat)=7∧isTok t (sg "-")=true then _ else _)=_
 rw[js (by omega),js (by omega),gw h,js (by simp)];rfl
end MX
end
section
set_option maxRecDepth 10000
namespace MX
open Vbdeaa (Exp Exps Un Bin Tok Text Toks text sg wd unWord binSign binNeeds exp joins atom args peek isTok then_ give opens must joiner oneOf place)
end MX
end
section
namespace MX
open Vbdeaa (Exp Exps Ins Code)
open Vbdeam (plain orParts andParts ifParts jumpOf isOne isZeroIns isTruthIns parse)
structure Ch where
 cond:Exp
 start:Nat
 middle:Nat
 end_:Nat
 first:Option Exp
 below:List Exp
end MX
end
section
namespace MX
open Vbdeaa (Exp Exps Ins Code)
open Vbdeam (plain orParts andParts ifParts jumpOf isOne isZeroIns isTruthIns parse)
end MX
end
section
namespace MX
open Vbdeaa (Exp Exps Ins Code)
open Vbdeam (plain orParts andParts ifParts jumpOf isOne isZeroIns isTruthIns parse)
end MX
end
section
namespace MX
open Vbdeaa (Exp Exps Ins Code)
open Vbdeam (plain orParts andParts ifParts jumpOf isOne isZeroIns isTruthIns parse)
end MX
end
section
namespace MX
open Vbdeaa (Exp Exps Ins Code)
open Vbdeam (plain orParts andParts ifParts jumpOf isOne isZeroIns isTruthIns parse)
end MX
end
section
namespace MX
open Vbdeaa (Exp Exps Ins Code)
open Vbdeam (plain orParts andParts ifParts jumpOf isOne isZeroIns isTruthIns parse size sizeAll joinBest)
end MX
end
section
set_option maxRecDepth 10000
namespace MX
open Vbdeaa (Exp Exps Un Bin Ins Code Text)
open Vbdeam (plain orParts andParts ifParts size sizeAll joinBest argName)
end MX
end
section
section
namespace SB
open PySem PySem.Spec PyProof.Rows L2 XL
variable {P:Program} {w:World} {K:PySem.W.Frag} {mg:Str→Option Value} {base:Heap}
noncomputable def top(i:Nat):Stmt:=PySem.Challenge.pw_stackback_s02_code.main.body.getD i (.Pass ⟨0,0,0,0⟩)
structure Fn (K:PySem.W.Frag) (mg:Str→Option Value) (x:Str) (st:Stmt) (f:Addr) (fd:FuncData) (ps:List Str):Prop where
 F:fc K x x st f fd
 m:mg x=some (.ref f)
 b:Binds K fd ps []
structure Fm (K:PySem.W.Frag) (C:Addr) (x qual:Str) (st:Stmt) (f:Addr) (fd:FuncData) (ps:List Str):Prop where
 F:fc K x qual st f fd
 b:Binds K fd ps []
 me:Meth K C x f
section
theorem dZ{x qual:Str}{st:Stmt}{f:Addr}{fd:FuncData}{N ps:List Str}{k:Nat}{sp:Sp}(F:fc K x qual st f fd)(S:aK N ps (aD st))(len:∀vs H Q E,sp vs H Q E→vs.length=ps.length)
  (j:∀(cdv:Value)(A:Around)(outer:List Env)(s:Shared)(H:Hp)(vs:List V)(Q:VK)(E:XK),bH k (A.deeper (envOfC qual (aD st) s.heap.objs.size f cdv))→sp vs H Q E →
   ∃t,zQ (eU (aW P w) P w K mg base N qual (aD st) f cdv A outer s H E) (eO st) t∧t { nx:=fun _ H'=>Q .non H',rt:=Q } (start N vs) H):aF P w K mg base (aW P w) (k+1) f fd ps sp:=by
 obtain⟨oc,od,kV,doc,pm,an,cdv,ct,osl,rfl,J,D⟩:=F.ex
 exact U3 J D S len fun A outer s H vs Q E G z=>j cdv A outer s H vs Q E G z
end
inductive TV where
 | i (n:Int)
 | s (x:Str)
 | t (l:List TV)
mutual
noncomputable def Lx(K:PySem.W.Frag):TV→Value→Bool
 | .i n,v=>(match v with | .int j _=>decide (n=j) | _=>false)
 | .s x,v=>(match v with | .str y _=>decide (x=y) | _=>false)
 | .t l,v=>(match v with
  | .ref a=>(match K.lookup a with
   | some ⟨.type c,_,.seq its _,_⟩=>decide (c = "tuple")&&EY K l its.toList&&decide (its.size≤1000)
   | _=>false)
  | _=>false)
noncomputable def EY(K:PySem.W.Frag):List TV→List Value→Bool
 | [],vs=>vs.isEmpty
 | x::r,vs=>(match vs with | v::q=>Lx K x v&&EY K r q | []=>false)
end
noncomputable def Wf(K:PySem.W.Frag)(x:Str)(c:TV):Bool:=match PySem.W.nsIn K mainGlobals x with
 | some (some v)=>Lx K c v
 | _=>false
inductive jG (K:PySem.W.Frag):TV→V→Prop
 | i (n:Int):jG K (.i n) (.int n)
 | s (x:Str):jG K (.s x) (.str x)
 | t {l:List TV} {a:Addr} {xs:List V} (h:∀H:Hp,cR K H a xs) (hx:Paired (jG K) l xs):jG K (.t l) (.ref a)
mutual
theorem Mm(K:PySem.W.Frag):∀(c:TV)(v:Value),Lx K c v=true→∃x,RelV x v∧jG K c x
 | .i n,v,h=>by
  cases v with
  | int j t =>
   have e:n=j:=jv h
   subst e
   exact⟨.int n,⟨t,rfl⟩,.i n⟩
  | _=>cases h
 | .s x,v,h=>by
  cases v with
  | str y t =>
   have e:x=y:=jv h
   subst e
   exact⟨.str x,⟨t,rfl⟩,.s x⟩
  | _=>cases h
 | .t l,v,h=>by
  cases v with
  | ref a =>
   unfold Lx at h
   simp only at h
   split at h
   ·rename_i c od its n sl q
    rw[ia,ia,jI,jI]at h
    obtain⟨⟨rfl,h1⟩,h2⟩:=h
    obtain⟨xs,r,hx⟩:=Ep K l its.toList h1
    exact⟨.ref a,rfl,.t (fun H=>.inr ⟨_,its,n,q,rfl,rfl,iq h2 (by decide),r⟩) hx⟩
   ·cases h
  | _=>cases h
theorem Ep(K:PySem.W.Frag):∀(l:List TV)(vs:List Value),EY K l vs=true→∃xs,Vals xs vs∧Paired (jG K) l xs
 | [],vs,h=>by
  cases vs with
  | nil=>exact⟨[],.nil,.nil⟩
  | cons v q=>cases h
 | c::r,vs,h=>by
  cases vs with
  | nil=>cases h
  | cons v q =>
   have h':Lx K c v=true∧EY K r q=true:=by
    rw[←ia]
    exact h
   obtain⟨x,D,hx⟩:=Mm K c v h'.1
   obtain⟨xs,j,z⟩:=Ep K r q h'.2
   exact⟨x::xs,.cons D j,.cons hx z⟩
end
noncomputable def GC(K:PySem.W.Frag)(mg:Str→Option Value)(x:Str)(c:TV):Prop:=∃u v,mg x=some u∧RelV v u∧jG K c v
theorem UV{K:PySem.W.Frag}{h:Heap}{mg:Str→Option Value}{x:Str}{c:TV}(X:K.In h)(G:h.Ns mainGlobals mg)(e:Wf K x c=true):GC K mg x c:=by
 unfold Wf at e
 split at e
 ·rename_i v q
  obtain⟨y,r,j⟩:=Mm K c v e
  exact⟨v,y,PySem.W.mg_of X G q,r,j⟩
 ·cases e
theorem jG.int{K:PySem.W.Frag}{n:Int}{v:V}(h:jG K (.i n) v):v=.int n:=by cases h;rfl
theorem jG.str{K:PySem.W.Frag}{x:Str}{v:V}(h:jG K (.s x) v):v=.str x:=by cases h;rfl
theorem jG.tup{K:PySem.W.Frag}{l:List TV}{v:V}(h:jG K (.t l) v):∃a xs,v=.ref a∧(∀H:Hp,cR K H a xs)∧Paired (jG K) l xs:=by
 cases h with
 | t h1 h2=>exact⟨_,_,rfl,h1,h2⟩
theorem iU{K:PySem.W.Frag}:∀{l:List Int}{xs:List V},Paired (jG K) (l.map TV.i) xs→xs=l.map V.int
 | [],_,.nil=>rfl
 | n::r,_,.cons h t=>by rw[jG.int h,iU t];rfl
theorem mF{K:PySem.W.Frag}:∀{l:List Str}{xs:List V},Paired (jG K) (l.map TV.s) xs→xs=l.map V.str
 | [],_,.nil=>rfl
 | n::r,_,.cons h t=>by rw[jG.str h,mF t];rfl
noncomputable def tG(K:PySem.W.Frag)(c:TV):TE:=fun _ H Q=>∀v,jG K c v→Q v H
theorem Gn{X:Cx}{x:Str}{c:TV}{pos:Pos}(D:Gl X x)(j:GC X.K X.mg x c)(hd:(x==("__debug__" : Str))=false:=by decide):PE X (.Name x pos) (tG X.K c):=by
 obtain⟨u,v,e,r,z⟩:=j
 exact fun pins s σ H Q I h=>lU I D e ⟨v,H,I,r,h v z⟩ hd
theorem bu{X:Cx}{x:Str}{n:Int}{pos:Pos}(D:Gl X x)(z:GC X.K X.mg x (.i n))(hd:(x==("__debug__" : Str))=false:=by decide):PE X (.Name x pos) (tC (.int n)):=by
 obtain⟨u,v,e,r,j⟩:=z
 cases j.int
 exact b_ D e r hd
theorem sI{i j:Int}:Aq (.int i) (.int j)=true:=rfl
theorem su{i j:Str}:Aq (.str i) (.str j)=true:=rfl
theorem sJ{i j:Bool}:Aq (.bl i) (.bl j)=true:=rfl
theorem sE{i:Int}:Aq .non (.int i)=true:=rfl
theorem sG{i:Int}:Aq (.int i) .non=true:=rfl
section
variable {CX:Ff} {P:Program} {w:World} {K:PySem.W.Frag} {mg:Str→Option Value} {base:Heap} {N:List Str} {qual:Str} {scope:Scope} {f:Addr} {cd:Value} {A:Around} {outer:List Env} {s:Shared} {H:Hp} {E:XK}
theorem Vj:(eU CX P w K mg base N qual scope f cd A outer s H E).K=K:=rfl
theorem Vi:(eU CX P w K mg base N qual scope f cd A outer s H E).prog=P:=rfl
theorem Vh:(eU CX P w K mg base N qual scope f cd A outer s H E).w=w:=rfl
theorem Ql:(eU CX P w K mg base N qual scope f cd A outer s H E).mg=mg:=rfl
end
noncomputable def tvs(l:List Int):TV:=.t (l.map TV.i)
noncomputable def Fj(l:List Str):TV:=.t (l.map TV.s)
noncomputable def Iu(l:List Int)(tb:TE):TE:=fun σ H Q=>tb σ H fun y H1=>∃i r,y=.int i∧qY l i=some r∧Q (.int r) H1
noncomputable def Df(l:List Str)(tb:TE):TE:=fun σ H Q=>tb σ H fun y H1=>∃i r,y=.int i∧qY l i=some r∧Q (.str r) H1
noncomputable def yx(l:List (List Int))(tb tc:TE):TE:=fun σ H Q=>tb σ H fun y H1=>∃i m,y=.int i∧qY l i=some m∧tc σ H1 fun z H2=>∃j r,z=.int j∧qY m j=some r∧Q (.int r) H2
theorem xZ{α β:Type}(g:α→β)(l:List α)(i:Int):qY (l.map g) i=(qY l i).map g:=by
 unfold qY
 rw[ap]
 cases M8 l.length i with
 | none=>rfl
 | some k=>simp
theorem Bf{α β:Type}{G:α→β→Prop}{l:List α}{m:List β}(h:Paired G l m){i:Int}{a:α}(e:qY l i=some a):∃b,qY m i=some b∧G a b:=by
 unfold qY at e ⊢
 rw[←Paired.length h]
 cases q:M8 l.length i with
 | none=>rw[q]at e;cases e
 | some k =>
  rw[q]at e
  exact d_ h e
noncomputable def WF(t:TE):TE:=fun σ H Q=>∃j:VK,t σ H j∧∀v H1,j v H1→Q v H1
theorem Ku{X:Cx}{e:Expr}{t:TE}(h:PE X e t):PE X e (WF t):=fun pins s σ H Q I ⟨z,h1,h2⟩=>cG (h pins s σ H z I h1) fun _ _ ⟨v,H',j,r,q⟩=>⟨v,H',j,r,h2 v H' q⟩
theorem Kw{X:Cx}{x:Str}{l:List Int}{b:Expr}{tb:TE}{p pos:Pos}(G:Gl X x)(D:GC X.K X.mg x (tvs l))(J:PE X b tb)(z:tU b)(hd:(x==("__debug__" : Str))=false:=by decide) :
  PE X (.Subscript (.Name x p) b pos) (Iu l tb):=by
 obtain⟨u,v,e,r,F⟩:=D
 obtain⟨a,xs,rfl,j,L⟩:=F.tup
 have e2:=iU L
 subst e2
 intro pins s σ H Q I h
 exact b7 cY (b_ G e r hd) (Ku J) z pins s σ H Q I ⟨_,h,fun y H1 ⟨i,r,e1,e2,q⟩=>⟨a,_,i,.int r,rfl,e1,j H1,by rw[xZ,e2];rfl,q⟩⟩
theorem DN{X:Cx}{x:Str}{l:List (List Int)}{b c:Expr}{tb tc:TE}{p pos pos':Pos}(hg:Gl X x)(Y:GC X.K X.mg x (.t (l.map tvs)))(hb:PE X b tb)(U:tU b)(Z:PE X c tc)(J:tU c)(hd:(x==("__debug__" : Str))=false:=by decide) :
  PE X (.Subscript (.Subscript (.Name x p) b pos) c pos') (yx l tb tc):=by
 obtain⟨u,v,e,r,L⟩:=Y
 obtain⟨a,xs,rfl,F,hp⟩:=L.tup
 intro pins s σ H Q I h
 refine b7 cY (b7 cY (b_ hg e r hd) (Ku hb) U) (Ku Z) J pins s σ H Q I ⟨_,h,fun y H1 ⟨i,m,e1,e2,q⟩=>?_⟩
 obtain⟨z,hz,O⟩:=Bf hp (i:=i) (a:=tvs m) (by rw[xZ,e2];rfl)
 obtain⟨a2,ys,rfl,D,G⟩:=O.tup
 have e3:=iU G
 subst e3
 exact⟨a,_,i,.ref a2,rfl,e1,F H1,hz,_,q,fun y2 H2 ⟨j,r,e4,e5,S⟩=>⟨a2,_,j,.int r,rfl,e4,D H2,by rw[xZ,e5];rfl,S⟩⟩
noncomputable def S8:List Int:=[7,3,9,9,9,9,9,9]
noncomputable def S5:List Int:=[5,5,6,6,6,6,8,4,4,4,4,4,4]
noncomputable def ou:List (List Int):=[[0,0,0],[1,2],[2,3],[3],[5,5],[5,6],[6,7],[7],[9,7]]
noncomputable def pK:List (List Int):=[[1,1,1],[0,0],[0,0],[1],[0,0],[0,0],[0,0],[1],[0,1]]
structure CN (K:PySem.W.Frag) (mg:Str→Option Value):Prop where
 ONE:GC K mg "ONE" (.i 2)
 TWO:GC K mg "TWO" (.i 3)
 AND:GC K mg "AND" (.i 4)
 OR:GC K mg "OR" (.i 5)
 IF:GC K mg "IF" (.i 6)
 STR:GC K mg "STRONGEST" (.i 9)
 OK_:GC K mg "ONE_KINDS" (tvs S8)
 TK_:GC K mg "TWO_KINDS" (tvs S5)
 PL:GC K mg "PLACES" (.t (ou.map tvs))
 AR:GC K mg "AROUND" (.t (pK.map tvs))
inductive lE:Int→V→Int→Prop
 | one {i r:Int}:qY S8 i=some r→lE 2 (.int i) r
 | two {i r:Int}:qY S5 i=some r→lE 3 (.int i) r
 | if_ {v:V}:lE 6 v 0
 | or_ {v:V}:lE 5 v 1
 | and_ {v:V}:lE 4 v 2
 | else_ {f:Int} {v:V}:f≠2→f≠3→f≠4→f≠5→f≠6→lE f v 9
noncomputable def t7:Sp:=fun vs H Q _=>∃f v r,vs=[.int f,v]∧lE f v r∧Q (.int r) H
noncomputable def Qw(l:List (List Int))(c:Int)(k p r:Int):Prop:=(k=9∧r=c)∨(k≠9∧∃m,qY l k=some m∧qY m p=some r)
noncomputable def yE(l:List (List Int))(c:Int):Sp:=fun vs H Q _=>∃k p r,vs=[.int k,.int p]∧Qw l c k p r∧Q (.int r) H
noncomputable abbrev qD:Stmt:=top 21
noncomputable abbrev pU:Stmt:=top 22
noncomputable abbrev oO:Stmt:=top 23
section
theorem Ro:aK ["form","detail"] ["form","detail"] (aD qD):=⟨rfl,rfl,rfl,by decide +kernel,rfl,by decide +kernel,by decide +kernel⟩
theorem sV{f:Addr}{fd:FuncData}(F:Fn K mg "kind_of" qD f fd ["form","detail"])(T:CN K mg):aF P w K mg base (aW P w) 1 f fd ["form","detail"] t7:=by
 refine dZ F.F Ro (fun vs H Q E h=>?_) (fun cdv A outer s H vs Q E z h=>?_)
 ·obtain⟨_,_,_,rfl,_⟩:=h
  rfl
 ·obtain⟨D,v,r,rfl,j,k⟩:=h
  refine⟨_,aq (aX (aG cz (pv 0) (bu rfl T.ONE) (aL _)) (ao (aV (Kw rfl T.OK_ (pv 1) (fun _ _=>rfl)))) aP)
   (aq (aX (aG cz (pv 0) (bu rfl T.TWO) (aL _)) (ao (aV (Kw rfl T.TK_ (pv 1) (fun _ _=>rfl)))) aP)
   (aq (aX (aG cz (pv 0) (bu rfl T.IF) (aL _)) (ao (aV aB)) aP)
   (aq (aX (aG cz (pv 0) (bu rfl T.OR) (aL _)) (ao (aV aB)) aP)
   (aq (aX (aG cz (pv 0) (bu rfl T.AND) (aL _)) (ao (aV aB)) aP)
   (ao (aV (bu rfl T.STR))))))),?_⟩
  simp only[L2.start,Ik,Fw,vA,Io,pP,tC,Fv,yt,yw,yz,Uo,Ul,Ay,rI,sI,su,sJ,sE,sG,V.int.injEq,V.str.injEq,V.bl.injEq,V.ref.injEq,true_and,and_true,Option.some.injEq,exists_eq_left',exists_eq_left,exists_eq_right,exists_and_left,i6,List.map_nil,cr,iA,i3,List.nil_append,ke,kc,jI,Bool.not_eq_true',decide_eq_false_iff_not,List.replicate_zero,List.replicate_succ,Nat.reduceSub,Nat.sub_self,Nat.reduceAdd,Nat.zero_add,Vj,Vi,Vh,Ql,qC,aZ,cZ,Fx,qQ,List.set_cons_zero,List.set_cons_succ,Iv,TX,Ip,T6,yu,yC,Im,Iu,yx,Df,Qy,i8,vB,z8,Ax,J_,Ir,im]
  cases j with
  | one e=>exact⟨_,rfl,_,e,k⟩
  | two e=>exact⟨_,rfl,_,e,k⟩
  | if_=>exact k
  | or_=>exact k
  | and_=>exact k
  | else_ a b c d e =>
   rw[js a,js b,js e,js d,js c]
   exact k
theorem NQ:aK ["kind","position"] ["kind","position"] (aD pU):=⟨rfl,rfl,rfl,by decide +kernel,rfl,by decide +kernel,by decide +kernel⟩
theorem yU{f:Addr}{fd:FuncData}(F:Fn K mg "place_of" pU f fd ["kind","position"])(T:CN K mg):aF P w K mg base (aW P w) 1 f fd ["kind","position"] (yE ou 0):=by
 refine dZ F.F NQ (fun vs H Q E h=>?_) (fun cdv A outer s H vs Q E z h=>?_)
 ·obtain⟨_,_,_,rfl,_⟩:=h
  rfl
 ·obtain⟨D,p,r,rfl,j,k⟩:=h
  refine⟨_,aq (aX (aG cz (pv 0) (bu rfl T.STR) (aL _)) (ao (aV aB)) aP)
   (ao (aV (DN rfl T.PL (pv 0) (fun _ _=>rfl) (pv 1) (fun _ _=>rfl)))),?_⟩
  simp only[L2.start,Ik,Fw,vA,Io,pP,tC,Fv,yt,yw,yz,Uo,Ul,Ay,rI,sI,su,sJ,sE,sG,V.int.injEq,V.str.injEq,V.bl.injEq,V.ref.injEq,true_and,and_true,Option.some.injEq,exists_eq_left',exists_eq_left,exists_eq_right,exists_and_left,i6,List.map_nil,cr,iA,i3,List.nil_append,ke,kc,jI,Bool.not_eq_true',decide_eq_false_iff_not,List.replicate_zero,List.replicate_succ,Nat.reduceSub,Nat.sub_self,Nat.reduceAdd,Nat.zero_add,Vj,Vi,Vh,Ql,qC,aZ,cZ,Fx,qQ,List.set_cons_zero,List.set_cons_succ,Iv,TX,Ip,T6,yu,yC,Im,Iu,yx,Df,Qy,i8,vB,z8,Ax,J_,Ir,im]
  rcases j with⟨rfl,rfl⟩ | ⟨a,m,e1,e2⟩
  ·exact k
  ·rw[js a]
   exact⟨m,e1,r,e2,k⟩
theorem JL:aK ["kind","position"] ["kind","position"] (aD oO):=⟨rfl,rfl,rfl,by decide +kernel,rfl,by decide +kernel,by decide +kernel⟩
theorem Gx{f:Addr}{fd:FuncData}(F:Fn K mg "around_of" oO f fd ["kind","position"])(T:CN K mg):aF P w K mg base (aW P w) 1 f fd ["kind","position"] (yE pK 1):=by
 refine dZ F.F JL (fun vs H Q E h=>?_) (fun cdv A outer s H vs Q E z h=>?_)
 ·obtain⟨_,_,_,rfl,_⟩:=h
  rfl
 ·obtain⟨D,p,r,rfl,j,k⟩:=h
  refine⟨_,aq (aX (aG cz (pv 0) (bu rfl T.STR) (aL _)) (ao (aV aB)) aP)
   (ao (aV (DN rfl T.AR (pv 0) (fun _ _=>rfl) (pv 1) (fun _ _=>rfl)))),?_⟩
  simp only[L2.start,Ik,Fw,vA,Io,pP,tC,Fv,yt,yw,yz,Uo,Ul,Ay,rI,sI,su,sJ,sE,sG,V.int.injEq,V.str.injEq,V.bl.injEq,V.ref.injEq,true_and,and_true,Option.some.injEq,exists_eq_left',exists_eq_left,exists_eq_right,exists_and_left,i6,List.map_nil,cr,iA,i3,List.nil_append,ke,kc,jI,Bool.not_eq_true',decide_eq_false_iff_not,List.replicate_zero,List.replicate_succ,Nat.reduceSub,Nat.sub_self,Nat.reduceAdd,Nat.zero_add,Vj,Vi,Vh,Ql,qC,aZ,cZ,Fx,qQ,List.set_cons_zero,List.set_cons_succ,Iv,TX,Ip,T6,yu,yC,Im,Iu,yx,Df,Qy,i8,vB,z8,Ax,J_,Ir,im]
  rcases j with⟨rfl,rfl⟩ | ⟨a,m,e1,e2⟩
  ·exact k
  ·rw[js a]
   exact⟨m,e1,r,e2,k⟩
end
theorem rC{CX:Ff}{P:Program}{w:World}{K:PySem.W.Frag}{mg:Str→Option Value}{base:Heap}{N:List Str}{qual:Str}{scope:Scope}{f:Addr}{cd:Value}{A:Around}{outer:List Env}{s:Shared}{H:Hp}{E:XK} :
  PassesOwn (model (eU CX P w K mg base N qual scope f cd A outer s H E).prog (eU CX P w K mg base N qual scope f cd A outer s H E).w) (eU CX P w K mg base N qual scope f cd A outer s H E).A (eU CX P w K mg base N qual scope f cd A outer s H E).env (eU CX P w K mg base N qual scope f cd A outer s H E).xe:=PassesOwn.leaving
noncomputable def QB:Sp:=fun vs H Q _=>∃a b:Nat,vs=[.int a,.int b]∧Q (.int (Nat.gcd a b)) H
noncomputable abbrev JW:Stmt:=top 50
section
theorem Dm:aK ["a","b","rest"] ["a","b"] (aD JW):=⟨rfl,rfl,rfl,by decide +kernel,rfl,by decide +kernel,by decide +kernel⟩
theorem R1{f:Addr}{fd:FuncData}(F:Fn K mg "common_divisor" JW f fd ["a","b"]):aF P w K mg base (aW P w) 1 f fd ["a","b"] QB:=by
 refine dZ F.F Dm (fun vs H Q E h=>?_) (fun cdv A outer s H vs Q E S h=>?_)
 ·obtain⟨_,_,rfl,_⟩:=h
  rfl
 ·obtain⟨a,b,rfl,k⟩:=h
  refine⟨_,aq (gB rC (aG vH (pv 1) aB (aL _))
    (aq (bw (i:=2) Dm.nd rfl (Or.inl rfl) (dw RK (pv 0) (pv 1)))
    (aq (bw (i:=0) Dm.nd rfl (Or.inl rfl) (pv 1))
    (ao (bw (i:=1) Dm.nd rfl (Or.inl rfl) (pv 2))))))
   (ao (aV (pv 0))),?_⟩
  refine⟨fun m σ H'=>∃(x y:Nat)(v:Option V),σ=[some (.int x),some (.int y),v]∧m=y∧Nat.gcd x y=Nat.gcd a b∧H'=H,⟨b,a,b,none,rfl,rfl,rfl,rfl⟩,?_⟩
  rintro y σ H' ⟨x,_,v,rfl,rfl,G,rfl⟩
  simp only[L2.start,Ik,Fw,vA,Io,pP,tC,Fv,yt,yw,yz,Uo,Ul,Ay,rI,sI,su,sJ,sE,sG,V.int.injEq,V.str.injEq,V.bl.injEq,V.ref.injEq,true_and,and_true,Option.some.injEq,exists_eq_left',exists_eq_left,exists_eq_right,exists_and_left,i6,List.map_nil,cr,iA,i3,List.nil_append,ke,kc,jI,Bool.not_eq_true',decide_eq_false_iff_not,List.replicate_zero,List.replicate_succ,Nat.reduceSub,Nat.sub_self,Nat.reduceAdd,Nat.zero_add,Vj,Vi,Vh,Ql,qC,aZ,cZ,Fx,qQ,List.set_cons_zero,List.set_cons_succ,Iv,TX,Ip,T6,yu,yC,Im,Iu,yx,Df,Qy,i8,vB,z8,Ax,J_,Ir,im]
  by_cases L:y=0
  ·subst L
   simp at G ⊢
   rw[G]
   exact k
  ·have J:¬((y:Int)=0):=by omega
   rw[j4 (by simpa using J)]
   refine⟨fun σ' z=>∃(D j:Nat)(v:Option V),σ'=[some (.int D),some (.int j),v]∧j<y∧Nat.gcd D j=Nat.gcd a b∧z=H',fun σ' z ⟨D,j,v,e1,e2,e3,O⟩=>⟨j,e2,D,j,v,e1,rfl,e3,O⟩,?_⟩
   refine⟨by omega,y,x % y,_,rfl,Nat.mod_lt _ (by omega),?_,rfl⟩
   rw[←G,Nat.gcd_comm x y,Nat.gcd_rec y x,Nat.gcd_comm]
end
structure KDict (K:PySem.W.Frag) (w:World) (d:Addr) (kvs:List (Key×V)):Prop where
 ns:(d==sysModules)=false
 ex:∀P:Program,∃(o:Obj)(es:Array DictEntry)(ep:Nat)(vs:List (Key×Value)),K.lookup d=some o∧o.ExactDict∧o.data=.dict es ep∧es.size=kvs.length∧KV kvs vs∧KeysOf (cJ P w) es∧Pairs (cJ P w) es.toList vs∧(vs.map (·.1)).Nodup
noncomputable def ALONE:List (Str×Int):=[("clock",0),("living",1),("me",192),("priority",193),("elapsed",194),("age",195),("family",196)]
noncomputable def ROWS:List (Str×Str×Int×Int):=[("p","",64,16),("v","",128,64),("f",".free",256,64),("f",".holder",320,64),("s",".used",384,64),("s",".left",448,64),("s",".open",512,64),("q",".content",576,64),("c",".length",640,64),("k","",704,64),("f",".open",832,64),("f",".displaced",896,64)]
noncomputable def J1(r:Str×Str×Int×Int):TV:=.t [.s r.1,.s r.2.1,.i r.2.2.1,.i r.2.2.2]
noncomputable def mK:List (Key×V):=ALONE.map fun p=>(Sum.inr p.1,V.int p.2)
noncomputable def u9(i:Int):Str:=Str.ofString (toString i)
structure CM (K:PySem.W.Frag) (w:World) (mg:Str→Option Value):Prop where
 RA:∃d,mg "READ_ALONE"=some (.ref d)∧KDict K w d mK
 RR:GC K mg "READ_ROWS" (.t (ROWS.map J1))
 str:mg "str"=none
theorem aA.upd{H:Hp}{T:Addr}{o:HO}(h:H T=none):aA H (L2.upd H T o):=fun b u e=>by
 rw[az (aH e h)]
 exact e
theorem kJ{α:Type}{p:α→Bool}:∀{l:List α}{i:Nat}{x:α},l[i]?=some x→(l.take i).find? p=none→p x=false→(l.take (i+1)).find? p=none
 | [],i,x,h,_,_=>by simp at h
 | a::l,0,x,h,_,hx=>by
  cases h
  simp[hx]
 | a::l,i+1,x,h,j,hx=>by
  rw[List.take_succ_cons,List.find?_cons]at j ⊢
  cases q:p a with
  | true=>rw[q]at j;cases j
  | false =>
   rw[q]at j
   simp only[q]
   exact kJ (l:=l) h j hx
theorem kI{α:Type}{p:α→Bool}:∀{l:List α}{i:Nat}{x:α},l[i]?=some x→(l.take i).find? p=none→p x=true→l.find? p=some x
 | [],i,x,h,_,_=>by simp at h
 | a::l,0,x,h,_,hx=>by
  cases h
  simp[hx]
 | a::l,i+1,x,h,j,hx=>by
  rw[List.take_succ_cons,List.find?_cons]at j
  rw[List.find?_cons]
  cases q:p a with
  | true=>rw[q]at j;cases j
  | false =>
   rw[q]at j
   exact kI (l:=l) h j hx
section
end
end SB
end
section
namespace SB
open PySem PySem.Spec PyProof.Rows L2 XL
open Vbdeaa (Text Exp Exps Un Bin)
variable {P:Program} {w:World} {K:PySem.W.Frag} {mg:Str→Option Value} {base:Heap}
noncomputable def tH:Exps→List Exp
 | .nil=>[]
 | .cons e l=>e::tH l
noncomputable def kids:Exp→List Exp
 | .num _=>[]
 | .name _=>[]
 | .un _ a=>[a]
 | .bin _ a b=>[a,b]
 | .and a b=>[a,b]
 | .or a b=>[a,b]
 | .cond c a b=>[c,a,b]
 | .best _ l=>tH l
 | .use _ l=>tH l
noncomputable def gY:Exp→Int
 | .num _=>0
 | .name _=>1
 | .un _ _=>2
 | .bin _ _ _=>3
 | .and _ _=>4
 | .or _ _=>5
 | .cond _ _ _=>6
 | .best _ _=>7
 | .use _ _=>8
noncomputable def wu:Un→Nat
 | .neg=>0 | .not=>1 | .floor=>2 | .ceil=>3 | .abs=>4 | .sign=>5 | .num=>6 | .den=>7
noncomputable def qX:Bin→Nat
 | .add=>0 | .sub=>1 | .mul=>2 | .div=>3 | .quo=>4 | .rem=>5 | .pow=>6 | .eq=>7 | .ne=>8 | .lt=>9 | .le=>10 | .gt=>11 | .ge=>12
noncomputable def bD(t:Text):Str:=⟨(t.map Int.toNat).toArray⟩
noncomputable def pJ(H:Hp):Exp→V→Prop
 | .num q,D=>∃t,D=.ref t∧H t=some (.tup [.int q.1,.int (q.2:Nat)])
 | .name n,D=>D=.str (bD n)
 | .un o _,D=>D=.int (wu o)
 | .bin o _ _,D=>D=.int (qX o)
 | .best g _,D=>D=.int (if g=true then 1 else 0)
 | .use n _,D=>D=.str (bD n)
 | _,D=>D=.int 0
noncomputable def Lb(j:Int)(D:V)(l:Addr)(h:Int):List (Str×V):=[("form",.int j),("detail",D),("parts",.ref l),("height",.int h)]
inductive cF (C:Addr) (H:Hp):Exp→Addr→Prop
 | mk {e:Exp} {a dx l:Addr} {D:V} {as:List Addr}:H a=some (.ins C dx (Lb (gY e) D l e.height))→pJ H e D→H l=some (.lst (as.map V.ref))→Paired (cF C H) (kids e) as→cF C H e a
theorem nR:∀(l:Exps)(e:Exp),e∈tH l→e.height≤l.height
 | .nil,e,h=>by cases h
 | .cons a l,e,h=>by
  show _≤max a.height l.height
  rcases hU.mp h with h | h
  ·subst h;omega
  ·have:=nR l e h;omega
theorem qO{e k:Exp}(h:k∈kids e):k.height<e.height:=by
 cases e with
 | num q=>cases h
 | name n=>cases h
 | un o a=>simp only[kids,hU,iN,or_false]at h;subst h;show _<_+1;omega
 | bin o a b=>simp only[kids,hU,iN,or_false]at h;show _<max _ _+1;rcases h with h | h<;>subst h<;>omega
 | and a b=>simp only[kids,hU,iN,or_false]at h;show _<max _ _+1;rcases h with h | h<;>subst h<;>omega
 | or a b=>simp only[kids,hU,iN,or_false]at h;show _<max _ _+1;rcases h with h | h<;>subst h<;>omega
 | cond c a b=>simp only[kids,hU,iN,or_false]at h;show _<max _ (max _ _)+1;rcases h with h | h | h<;>subst h<;>omega
 | best g l=>have:=nR l k h;show _<_+1;omega
 | use n l=>have:=nR l k h;show _<_+1;omega
noncomputable def rE(l:List Nat):Nat:=l.foldr max 0
theorem D_:∀{l:List Nat}{x:Nat},x∈l→x≤rE l
 | a::l,x,h=>by
  show x≤max a (rE l)
  rcases hU.mp h with h | h
  ·omega
  ·have:=D_ h;omega
theorem yZ:∀{l:List Nat},l≠[]→rE l∈l
 | [],h=>absurd rfl h
 | [a],_=>by show max a 0∈[a];rw[Nat.max_zero];exact b'
 | a::b::l,_=>by
  have j:=yZ (l:=b::l) (by simp)
  show max a (rE (b::l))∈a::b::l
  by_cases h:rE (b::l)≤a
  ·rw[Nat.max_eq_left h];exact b'
  ·rw[Nat.max_eq_right (by omega)];exact am _ j
theorem Ph{l:List Nat}{m:Int}(h:(l.map (fun(n:Nat)=>(n:Int))=[]∧m=0)∨(m∈l.map (fun(n:Nat)=>(n:Int))∧∀y∈l.map (fun(n:Nat)=>(n:Int)),y≤m)):m=rE l:=by
 rcases h with⟨h1,h2⟩ | ⟨h1,h2⟩
 ·have:l=[]:=by simpa using h1
  subst this
  exact h2
 ·obtain⟨x,hx,e⟩:=List.mem_map.mp h1
  have a1:=D_ hx
  have a2:=h2 _ (List.mem_map.mpr ⟨rE l,yZ (by intro z;subst z;cases hx),rfl⟩)
  omega
theorem ir:∀(l:Exps),l.height=rE ((tH l).map Exp.height)
 | .nil=>rfl
 | .cons a l=>by
  show max a.height l.height=max a.height (rE ((tH l).map Exp.height))
  rw[ir l]
theorem vQ(e:Exp):e.height=1+rE ((kids e).map Exp.height):=by
 cases e with
 | num q=>rfl
 | name n=>rfl
 | un o a=>show a.height+1=1+max a.height 0;omega
 | bin o a b=>show max a.height b.height+1=1+max a.height (max b.height 0);omega
 | and a b=>show max a.height b.height+1=1+max a.height (max b.height 0);omega
 | or a b=>show max a.height b.height+1=1+max a.height (max b.height 0);omega
 | cond c a b=>show max c.height (max a.height b.height)+1=1+max c.height (max a.height (max b.height 0));omega
 | best g l=>show l.height+1=1+rE ((tH l).map Exp.height);rw[ir];omega
 | use n l=>show l.height+1=1+rE ((tH l).map Exp.height);rw[ir];omega
theorem nU{H H':Hp}{e:Exp}{D:V}(s:∀b xs,H b=some (.tup xs)→H' b=some (.tup xs))(h:pJ H e D):pJ H' e D:=by
 cases e with
 | num q=>obtain⟨t,e1,e2⟩:=h;exact⟨t,e1,s _ _ e2⟩
 | _=>exact h
theorem cP{α β:Type}{F G:α→β→Prop}:∀{l:List α}{m:List β},Paired F l m→(∀a b,a∈l→F a b→G a b)→Paired G l m
 | _,_,.nil,_=>.nil
 | _,_,.cons r t,f=>.cons (f _ _ b' r) (cP t fun a b h=>f a b (am _ h))
theorem cF.same{C:Addr}{H H':Hp}(s:aA H H'):∀{e:Exp}{a:Addr},cF C H e a→cF C H' e a:=by
 have j:∀(n:Nat)(e:Exp)(a:Addr),e.height≤n→cF C H e a→cF C H' e a:=by
  intro n
  induction n with
  | zero =>
   intro e a D h
   have:0<e.height:=by cases e<;>simp[Exp.height]
   omega
  | succ n L =>
   intro e a D h
   cases h with
   | mk h1 h2 z G=>exact .mk (s _ _ h1) (nU (fun b xs q=>s _ _ q) h2) (s _ _ z) (cP G fun k b F J=>L k b (by have:=qO F;omega) J)
 intro e a h
 exact j e.height e a (f' _) h
structure v_ (K:PySem.W.Frag) (C:Addr):Prop where
 cl:CW K C
 nF:aO K C "form"
 nD:aO K C "detail"
 nP:aO K C "parts"
 nH:aO K C "height"
noncomputable def bC(x:Addr)(H H':Hp):Prop:=∀b o,H b=some o→b≠x→H' b=some o
noncomputable def Ae(C:Addr):Sp:=fun vs H Q _=>∃(x dx l:Addr)(e:Exp)(D:V)(as:List Addr),vs=[.ref x,.int (gY e),D,.ref l]∧H x=some (.ins C dx [])∧pJ H e D∧H l=some (.lst (as.map V.ref))∧Paired (cF C H) (kids e) as ∧
 as.length<2000∧∀H',bC x H H'→H' x=some (.ins C dx (Lb (gY e) D l e.height))→Q .non H'
noncomputable abbrev Dn:Stmt:=inClass (top 20) 0
theorem oX{C:Addr}{H:Hp}{e:Exp}{a:Addr}(h:cF C H e a):∃dx D l as,H a=some (.ins C dx (Lb (gY e) D l e.height))∧pJ H e D∧H l=some (.lst (as.map V.ref))∧Paired (cF C H) (kids e) as:=by
 cases h with
 | mk h1 h2 j z=>exact⟨_,_,_,_,h1,h2,j,z⟩
section
theorem Ar:aK ["self","form","detail","parts","part"] ["self","form","detail","parts"] (aD Dn):=⟨rfl,rfl,rfl,by decide +kernel,rfl,by decide +kernel,by decide +kernel⟩
theorem Ou{f C:Addr}{fd:FuncData}(F:fc K "__init__" "Node.__init__" Dn f fd)(T:v_ K C)(Y:mg "max"=none):aF P w K mg base (aW P w) 1 f fd ["self","form","detail","parts"] (Ae C):=by
 refine dZ F Ar (fun vs H Q E h=>?_) (fun cdv A outer s H vs Q E hr h=>?_)
 ·obtain⟨_,_,_,_,_,_,rfl,_⟩:=h
  rfl
 ·obtain⟨x,dx,l,e,D,as,rfl,hx,hD,hl,hp,S,k⟩:=h
  refine⟨_,aq (b8 (pv 0) (pv 1) rfl) (aq (b8 (pv 0) (pv 2) rfl) (aq (b8 (pv 0) (pv 3) rfl)
   (ao (b8 (pv 0) (dw pZ aB (Od rfl rfl Y (aj (yO (own:=[("part",4)]) (te:=z8 K (pP 4) "height") rfl Ar.nd (jj (pv 3)) (iY (by kernel_rfl))
    (fun _ _ _ _ _=>by exact cX (i:=4) Ar.nd rfl (Or.inl rfl)) (fun _ _ _ _ _=>by exact lJ) (fun _ _ _ _ _=>by exact aJ (pv 4) rfl)) au) (Ob aB Rw))) rfl)))),?_⟩
  have ai:l≠x:=qL hl hx (by intro z;cases z)
  have ar:gb "form" (.int (gY e)) []=[(("form" : Str),V.int (gY e))]:=rfl
  refine⟨_,rfl,_,rfl,x,C,dx,[],rfl,hx,T.cl,T.nF,(by decide),?_⟩
  refine⟨_,rfl,_,rfl,x,C,dx,_,rfl,ak,T.cl,T.nD,(by show 1<1000;decide),?_⟩
  refine⟨_,rfl,_,rfl,x,C,dx,_,rfl,ak,T.cl,T.nP,(by show 2<1000;decide),?_⟩
  generalize U:L2.upd (L2.upd (L2.upd H x (.ins C dx (gb "form" (.int (gY e)) []))) x (.ins C dx (gb "detail" D (gb "form" (.int (gY e)) [])))) x (.ins C dx (gb "parts" (.ref l) (gb "detail" D (gb "form" (.int (gY e)) []))))=H3
  have sx:bC x H H3:=fun b o q j=>by rw[←U,az j,az j,az j];exact q
  have ac:H3 x=some (.ins C dx [("form",.int (gY e)),("detail",D),("parts",.ref l)]):=by rw[←U];exact ak
  have J:=sx l _ hl ai
  refine⟨_,rfl,l,rfl,⟨_,bZ.of J⟩,fun L hL=>lV (K:=K) (a:=l) (xs:=as.map V.ref) (fun i H'=>bC L H3 H'∧H' L=some (.lst (((((kids e).map Exp.height).take i).map (fun(n:Nat)=>(n:Int))).map V.int))) ⟨fun b o q j=>by rw[az j];exact q,ak⟩
   (fun i H' _ ⟨s1,_⟩=>bZ.of (s1 l _ J (aH J hL))) ?_ ?_⟩
  ·rintro i y H' hi ⟨s1,G⟩
   rw[iE]at hi
   obtain⟨a,ha,rfl⟩:∃a,as[i]?=some a∧y=V.ref a:=by
    cases q:as[i]? with
    | none=>rw[q]at hi;cases hi
    | some a=>rw[q]at hi;exact⟨a,rfl,(Option.some.inj hi).symm⟩
   have il:i<(kids e).length:=by rw[Paired.length hp];exact(hZ.mp ha).1
   obtain⟨kd,Z⟩:∃kd,(kids e)[i]?=some kd:=⟨_,ii il⟩
   obtain⟨a',aa,ag⟩:=d_ hp Z
   rw[ha]at aa
   cases aa
   obtain⟨al,D',l',av,h1,_⟩:=oX ag
   have O:a≠x:=qL h1 hx (by intro z;injection z with _ _ z;cases z)
   have ah:=s1 a _ (sx a _ h1 O) (aH (sx a _ h1 O) hL)
   refine⟨rfl,_,rfl,a,C,al,_,_,rfl,ah,T.cl,T.nH,rfl,_,G,?_,fun b o q j=>by rw[az j];exact s1 b o q j,?_⟩
   ·rw[ap,ap,ij]
    exact iO (Nat.min_le_right _ _) (by rw[ap,Paired.length hp];exact ic S (by decide))
   ·rw[ak]
    have e1:((kids e).map Exp.height)[i]?=some kd.height:=by rw[iE,Z];rfl
    rw[List.take_succ,e1]
    simp
  ·rintro H' ⟨s1,G⟩
   rw[ap,←Paired.length hp,show(kids e).length=((kids e).map Exp.height).length by rw[ap],List.take_length]at G
   have ae:x≠L:=aH ac hL
   have af:=s1 x _ ac ae
   refine⟨L,_,0,rfl,rfl,bZ.of G,fun m hm=>?_⟩
   have em:=Ph (l:=(kids e).map Exp.height) hm
   have eh:1+m=(e.height:Int):=by rw[vQ,em];omega
   refine⟨_,_,rfl,rfl,_,rfl,x,C,dx,_,rfl,af,T.cl,T.nH,(by show 3<1000;decide),?_⟩
   show Q .non (L2.upd H' x (.ins C dx (gb "height" (.int (1+m)) _)))
   rw[eh]
   refine k _ (fun b o q j=>?_) ak
   rw[az j]
   have q3:=sx b o q j
   exact s1 b o q3 (aH q3 hL)
end
theorem aA.V5{H:Hp}{x dx C:Addr}(nx:H x=none)(nd:H dx=none):aA H (L2.upd (L2.upd H dx (.own x)) x (.ins C dx [])):=fun b o e=>by
 rw[az (aH e nx),az (aH e nd)]
 exact e
theorem fM{C:Addr}{H H':Hp}(s:aA H H'){es:List Exp}{as:List Addr}(h:Paired (cF C H) es as):Paired (cF C H') es as:=cP h fun _ _ _ q=>q.same s
noncomputable def Hv(H:Hp)(Q:VK)(xs:List V):Prop:=∀l H',H l=none→aA H H'→H' l=some (.lst xs)→Q (.ref l) H'
section
end
section
end
section
end
noncomputable def vI(t:Text):List V:=t.map V.int
theorem m8(s:String):Vbdeaa.text s=(TL.tl (Str.ofString s)).map fun(c:Nat)=>(c:Int):=by
 unfold Vbdeaa.text
 rw[TL.yr,List.map_map]
 rfl
noncomputable def vm:List Str:=["-","not","floor","ceil","abs","sign","num","den"]
noncomputable def rm:List Str:=["min","max"]
noncomputable def dY:List (List Int):=[[43],[45],[42],[47],[47,47],[37],[94],[61],[60,62],[60],[60,61],[62],[62,61]]
structure CP (K:PySem.W.Frag) (mg:Str→Option Value):Prop where
 NUMBER:GC K mg "NUMBER" (.i 0)
 NAME:GC K mg "NAME" (.i 1)
 PICK:GC K mg "PICK" (.i 7)
 OW:GC K mg "ONE_WORDS" (Fj vm)
 PW:GC K mg "PICK_WORDS" (Fj rm)
 TS:GC K mg "TWO_SIGNS" (.t (dY.map tvs))
 str:mg "str"=none
 list:mg "list"=none
 range:mg "range"=none
 len:mg "len"=none
section
end
section
end
section
theorem RJ{X:Cx}:iC (aW X.prog X.w) X E0:=fun pins σ H s v s' I h=>by
 obtain⟨_,_,_,_,_,_,_,_,_,_,z⟩:=h
 exact False.elim z
end
theorem cu{α β:Type}{F:α→β→Prop}:∀{l:List α}{m:List β}{a:α}{b:β},Paired F l m→F a b→Paired F (l++[a]) (m++[b])
 | _,_,_,_,.nil,h=>.cons h .nil
 | _,_,_,_,.cons r t,h=>.cons r (cu t h)
section
end
noncomputable abbrev vd:Stmt:=inClass (top 25) 0
noncomputable abbrev yH(i:Nat):Stmt:=inClass (top i) 0
section
theorem T8:aK ["self","number"] ["self","number"] (aD vd):=⟨rfl,rfl,rfl,by decide +kernel,rfl,by decide +kernel,by decide +kernel⟩
theorem p_{f:Addr}{fd:FuncData}(F:fc K "__init__" "Refusal.__init__" vd f fd)(hex:mg "Exception"=none):aF P w K mg base (aW P w) 1 f fd ["self","number"] (WL K):=by
 refine dZ F T8 (fun vs H Q E h=>?_) (fun cdv A outer s H vs Q E z h=>?_)
 ·obtain⟨_,_,_,rfl,_⟩:=h
  rfl
 ·obtain⟨x,C,n,rfl,hx,j,k⟩:=h
  refine⟨_,aq (aN (Kl rfl hex (aj (pv 0) au))) (ao (Oa (pv 0) (pv 1) rfl)),?_⟩
  exact⟨_,rfl,x,C,none,rfl,hx,j.over,_,rfl,_,rfl,x,C,rfl,hx,j.over,j.sa,j.tk,j.hd,k⟩
theorem Ri:aK ["self"] ["self"] (aD (yH 26)):=⟨rfl,rfl,rfl,by decide +kernel,rfl,by decide +kernel,by decide +kernel⟩
theorem RL{f z R:Addr}{fd j:FuncData}(F:fc K "__init__" "WrongParameterCount.__init__" (yH 26) f fd)(D:fc K "__init__" "Refusal.__init__" vd z j)(O:Binds K j ["self","number"] [])(J:mg "Refusal"=some (.ref R))(CR:h_ K R "__init__" z)(hex:mg "Exception"=none):aF P w K mg base (aW P w) 2 f fd ["self"] (Ny K (-1)):=by
 have GR:aF P w K mg base (aW P w) 1 z j _ _:=p_ D hex
 refine dZ F Ri (fun vs H Q E h=>?_) (fun cdv A outer s H vs Q E G h=>?_)
 ·obtain⟨_,_,rfl,_⟩:=h
  rfl
 ·obtain⟨x,C,rfl,hx,L,k⟩:=h
  refine⟨_,ao (aN (lK (b_ rfl J rfl) CR GR G O .nil passes (aj (pv 0) (aj (eN cW aB) au)))),?_⟩
  exact⟨_,rfl,_,rfl,x,C,-1,rfl,hx,L,k⟩
theorem NK:aK ["self"] ["self"] (aD (yH 27)):=⟨rfl,rfl,rfl,by decide +kernel,rfl,by decide +kernel,by decide +kernel⟩
theorem Ov{f z R:Addr}{fd j:FuncData}(F:fc K "__init__" "CodeTooLong.__init__" (yH 27) f fd)(D:fc K "__init__" "Refusal.__init__" vd z j)(O:Binds K j ["self","number"] [])(J:mg "Refusal"=some (.ref R))(CR:h_ K R "__init__" z)(hex:mg "Exception"=none):aF P w K mg base (aW P w) 2 f fd ["self"] (Ny K (-2)):=by
 have GR:aF P w K mg base (aW P w) 1 z j _ _:=p_ D hex
 refine dZ F NK (fun vs H Q E h=>?_) (fun cdv A outer s H vs Q E G h=>?_)
 ·obtain⟨_,_,rfl,_⟩:=h
  rfl
 ·obtain⟨x,C,rfl,hx,L,k⟩:=h
  refine⟨_,ao (aN (lK (b_ rfl J rfl) CR GR G O .nil passes (aj (pv 0) (aj (eN cW aB) au)))),?_⟩
  exact⟨_,rfl,_,rfl,x,C,-2,rfl,hx,L,k⟩
end
section
end
end SB
end
section
namespace SB
open PySem PySem.Spec PyProof.Rows L2 XL
open Vbdeaa (Text Exp Exps Un Bin Ins Code)
variable {P:Program} {w:World} {K:PySem.W.Frag} {mg:Str→Option Value} {base:Heap}
theorem ji{k:Nat}(h:960≤k):Vbdeam.readName k=none:=by
 unfold Vbdeam.readName
 have:15≤k / 64:=by omega
 generalize k / 64=j at this
 simp only
 split<;>first | omega | rfl
end SB
end
section
namespace SB
open PySem PySem.Spec PyProof.Rows L2 XL
open Vbdeaa (Text Exp Exps Un Bin Ins)
variable {P:Program} {w:World} {K:PySem.W.Frag} {mg:Str→Option Value} {base:Heap}
structure XC (P:Program) (w:World) (K:PySem.W.Frag) (mg:Str→Option Value) (base:Heap) (x:Str) (C fI:Addr) (fd:FuncData) (n:Int):Prop where
 made:Wk K C fI
 cls:pI K C
 m:mg x=some (.ref C)
 b:Binds K fd ["self"] []
 ok:aF P w K mg base (aW P w) 2 fI fd ["self"] (Ny K n)
noncomputable def bz(C:Addr)(n:Int)(H:Hp)(E:XK):Prop:=∀e d H',aA H H'→H' e=some (Mf e C d)→H' d=some (.xd [("number",.int n)])→E (.ref C) (some d) H'
theorem bz.mono{C:Addr}{n:Int}{H H1:Hp}{E:XK}(s:aA H H1)(h:bz C n H E):bz C n H1 E:=fun e d H' s' h1 h2=>h e d H' (s.trans s') h1 h2
theorem bz.go{C:Addr}{n:Int}{H:Hp}{E:XK}{D:Ends}{σ:L2.St}(h:bz C n H E):Il C n E D σ H:=fun e d H' s' h1 h2=>h e d H' s' h1 h2
noncomputable def jU(c:Vbdeaa.Code):List (List Int):=c.map Ins.told
noncomputable def dh(H:Hp)(c:Vbdeaa.Code)(ts:List Addr):Prop:=Paired (fun row t=>H t=some (.tup (vI row))) (jU c) ts
theorem dh.same{H H':Hp}{c:Vbdeaa.Code}{ts:List Addr}(s:aA H H')(h:dh H c ts):dh H' c ts:=cP h fun _ _ _ q=>s _ _ q
theorem Eo{xs:List V}{a k:Nat}:nW xs (some (a:Int)) (some ((a+k:Nat):Int))=(xs.drop a).take k:=by
 unfold nW
 rw[HT.oK,HT.oK]
 by_cases h:a≤xs.length
 ·rw[Nat.min_eq_left h]
  by_cases h2:a+k≤xs.length
  ·rw[Nat.min_eq_left h2]
   congr 1
   omega
  ·rw[Nat.min_eq_right (by omega),List.take_of_length_le (by rw[kg];omega),List.take_of_length_le (by rw[kg];omega)]
 ·rw[List.drop_eq_nil_of_le (show xs.length≤min a xs.length by omega),List.drop_eq_nil_of_le (show xs.length≤a by omega)]
  simp
theorem Dc(l:List Int)(k:Nat):(vI l).drop k=vI (l.drop k):=List.map_drop.symm
theorem C_(l:List Int)(k:Nat):(vI l).take k=vI (l.take k):=List.map_take.symm
theorem cT(l:List Int):(vI l).length=l.length:=ap ..
theorem H_(l:List Int)(k:Nat):(vI l)[k]?=(l[k]?).map V.int:=iE ..
section
end
end SB
end
section
namespace SB
open PySem PySem.Spec PyProof.Rows L2 XL
open Vbdeaa (Text Exp Exps Un Bin Ins)
open MX (Ch)
variable {P:Program} {w:World} {K:PySem.W.Frag} {mg:Str→Option Value} {base:Heap}
noncomputable def off(M:List Addr)(H:Hp):Hp:=fun b=>if b∈M then none else H b
theorem aU(M:List Addr)(H:Hp):aA (off M H) H:=fun b o e=>by
 unfold off at e
 split at e
 ·cases e
 ·exact e
theorem gm{M:List Addr}{H:Hp}{b:Addr}{o:HO}(h:H b=some o)(j:b∉M):off M H b=some o:=by
 unfold off
 rw[js j]
 exact h
theorem oW{M:List Addr}{H:Hp}{b:Addr}{o:HO}(h:off M H b=some o):b∉M:=by
 unfold off at h
 split at h
 ·cases h
 ·assumption
theorem sW{M:List Addr}{H:Hp}{b:Addr}{o:HO}(h:b∈M):off M (L2.upd H b o)=off M H:=by
 funext x
 unfold off
 by_cases hx:x∈M
 ·rw[j4 hx,j4 hx]
 ·rw[js hx,js hx,az (fun z=>hx (by rw[z];exact h))]
structure rP (M:List Addr) (H H':Hp):Prop where
 ins:∀b∈M,H' b=H b
 out:aA (off M H) (off M H')
theorem rP.of_same{M:List Addr}{H H':Hp}(z:∀b∈M,∃o,H b=some o)(s:aA H H'):rP M H H':=by
 refine⟨fun b D=>?_,fun b o e=>?_⟩
 ·obtain⟨o,j⟩:=z b D
  rw[j]
  exact s _ _ j
 ·exact gm (s _ _ (aU _ _ _ _ e)) (oW e)
section
end
section
end
section
end
section
end
section
end
section
end
section
end
section
end
section
end
section
end
section
end
section
end
section
end
end SB
end
section
namespace SB
open PySem PySem.Spec PyProof.Rows L2 XL
open Vbdeaa (Text Exp Exps Un Bin Ins)
variable {P:Program} {w:World} {K:PySem.W.Frag} {mg:Str→Option Value} {base:Heap}
structure CS (K:PySem.W.Frag) (mg:Str→Option Value):Prop where
 MP:GC K mg "MOST_PARAMETERS" (.i 8)
 LC:GC K mg "LONGEST_CODE" (.i 500)
 HI:GC K mg "HIGHEST" (.i 32)
 DE:GC K mg "DEEPEST" (.i 32)
 len:mg "len"=none
noncomputable def Jb(j:Addr):Sp:=fun vs H Q E=>∃n:Int,vs=[.int n]∧((0≤n∧n≤8)→Q .non H)∧(¬(0≤n∧n≤8)→bz j (-1) H E)
noncomputable def Jf(K:PySem.W.Frag)(Cl:Addr):Sp:=fun vs H Q E=>∃(l:Addr)(xs:List V),vs=[.ref l]∧bZ K H l xs∧(xs.length≤500→Q .non H)∧(¬xs.length≤500→bz Cl (-2) H E)
noncomputable def Jj:Sp:=fun vs H Q _=>∃(l:Addr)(xs:List V),vs=[.ref l]∧H l=some (.lst xs)∧xs.length≤1000000∧Hv H Q (.int 0 :: .int (xs.length:Nat)::xs)
noncomputable abbrev JM:Stmt:=top 80
noncomputable abbrev JR:Stmt:=top 81
noncomputable abbrev yK:Stmt:=top 83
section
theorem T9:aK ["n"] ["n"] (aD JM):=⟨rfl,rfl,rfl,by decide +kernel,rfl,by decide +kernel,by decide +kernel⟩
theorem RP{f j fI:Addr}{fd dI:FuncData}(F:Fn K mg "check_parameters" JM f fd ["n"])(X:XC P w K mg base "WrongParameterCount" j fI dI (-1))(S:CS K mg):aF P w K mg base (aW P w) 4 f fd ["n"] (Jb j):=by
 refine dZ F.F T9 (fun vs H Q E h=>?_) (fun cdv A outer s H vs Q E G h=>?_)
 ·obtain⟨_,rfl,_⟩:=h
  rfl
 ·obtain⟨n,rfl,k,D⟩:=h
  refine⟨_,ao (aX (jX (Kc nj nj aB (pv 0) (bu rfl S.MP))) (ao (bO X.made X.cls X.ok G rfl X.m X.b rfl bF)) aP),?_⟩
  refine⟨_,rfl,0,n,rfl,rfl,_,rfl,fQ (fun h1=>?_) fun h1=>?_⟩
  ·have h1:0≤n:=jv h1
   refine⟨n,8,rfl,rfl,_,rfl,?_⟩
   by_cases h2:n≤8
   ·rw[i9 h2]
    exact aR (k ⟨h1,h2⟩)
   ·rw[j5 h2]
    exact bh (D fun z=>h2 z.2).go
  ·refine⟨_,rfl,bh ?_⟩
   exact(D fun z=>h1 (i9 z.1)).go
theorem Uc:aK ["numbers"] ["numbers"] (aD JR):=⟨rfl,rfl,rfl,by decide +kernel,rfl,by decide +kernel,by decide +kernel⟩
theorem RZ{f Cl fI:Addr}{fd dI:FuncData}(F:Fn K mg "check_length" JR f fd ["numbers"])(X:XC P w K mg base "CodeTooLong" Cl fI dI (-2))(S:CS K mg):aF P w K mg base (aW P w) 4 f fd ["numbers"] (Jf K Cl):=by
 refine dZ F.F Uc (fun vs H Q E h=>?_) (fun cdv A outer s H vs Q E j h=>?_)
 ·obtain⟨_,_,rfl,_⟩:=h
  rfl
 ·obtain⟨l,xs,rfl,D,k,G⟩:=h
  refine⟨_,ao (aX (aG qG (bW bG (by rfl) S.len (by decide +kernel) (aj (pv 0) au)) (bu rfl S.LC) (aL _)) (ao (bO X.made X.cls X.ok j rfl X.m X.b rfl bF)) aP),?_⟩
  refine⟨_,rfl,l,xs,rfl,.inl D,_,_,rfl,rfl,_,rfl,fQ (fun h1=>?_) fun h1=>?_⟩
  ·have h1:(500:Int)<xs.length:=jv h1
   exact(G (by omega)).go
  ·have h1:¬(500:Int)<xs.length:=fun z=>h1 (i9 z)
   exact k (by omega)
theorem Rr:aK ["row"] ["row"] (aD yK):=⟨rfl,rfl,rfl,by decide +kernel,rfl,by decide +kernel,by decide +kernel⟩
theorem O3{f:Addr}{fd:FuncData}(F:Fn K mg "done" yK f fd ["row"])(S:CS K mg):aF P w K mg base (aW P w) 1 f fd ["row"] Jj:=by
 refine dZ F.F Rr (fun vs H Q E h=>?_) (fun cdv A outer s H vs Q E U h=>?_)
 ·obtain⟨_,_,rfl,_⟩:=h
  rfl
 ·obtain⟨l,xs,rfl,G,L,k⟩:=h
  refine⟨_,ao (aV (dw xj (bT (aj aB (aj (bW bG (by rfl) S.len (by decide +kernel) (aj (pv 0) au)) au))) (pv 0))),?_⟩
  refine⟨_,rfl,l,xs,rfl,.inl (bZ.of G),(by show 2≤sizeLine;decide),fun r D=>?_⟩
  have ne:l≠r:=fun z=>by rw[z,D]at G;cases G
  refine⟨_,rfl,r,l,_,xs,rfl,rfl,ak,(by rw[az ne];exact G),?_,fun J j=>?_⟩
  ·show _≤sizeLine
   have:sizeLine=16777216:=rfl
   simp only[cr,iA]
   omega
  ·have O:H J=none:=by
    by_cases z:J=r
    ·rw[z,ak]at j
     cases j
    ·rw[az z]at j
     exact j
   exact k J _ O ((aA.upd D).trans (aA.upd j)) ak
end
theorem same_none{H H':Hp}{l:Addr}(s:aA H H')(h:H' l=none):H l=none:=by
 cases q:H l with
 | none=>rfl
 | some o=>rw[s _ _ q]at h;cases h
section
theorem caught{Rc C:Addr}{n:Int}{H:Hp}{D:Ends}{xs:List V}(F:pI K C)(hx:PySem.W.exmOne K (.ref C) (.ref Rc)=some true)(z:Hv H D.rt xs)(G:xs=[.int n]):bz C n H (wj K Rc D):=by
 subst G
 intro e d H' s h1 h2
 exact⟨C,d,n,rfl,rfl,F,hx,h2,fun l j=>z l _ (same_none s j) (s.trans (aA.upd j)) ak⟩
end
noncomputable abbrev fdOf(x qual:Str)(st:Stmt)(kV doc pm:Value)(an:Option Addr)(cdv ct:Value):FuncData:=PySem.W.fnOf x qual (mD st) (eO st) (aD st) .none kV doc pm an cdv ct
noncomputable def aM(x qual:Str)(st:Stmt)(ps:List Str):Prop:=∀(kV doc pm:Value)(an:Option Addr)(cdv ct:Value)(us:List Value),us.length=ps.length→bindArgs (PySem.W.fnOf x qual (mD st) (eO st) (aD st) .none kV doc pm an cdv ct) ⟨us,[]⟩=pure (ps.zip us)
section
variable {K:PySem.W.Frag} {h:Heap} {mg:Str→Option Value} {x qual:Str} {st:Stmt} {ps:List Str} {f C:Addr} {oc kV doc pm cdv ct:Value} {od an:Option Addr} {osl:Array (Option Value)}
theorem rF(j:aM x x st ps)(X:K.In h)(G:h.Ns mainGlobals mg)(a:PySem.W.nsIn K mainGlobals x=some (some (.ref f)))(l:K.lookup f=some ⟨oc,od,.func (fdOf x x st kV doc pm an cdv ct),osl⟩)(c:PySem.W.codeIn K cdv x=true)(k:PySem.W.keepIn K (.ref f)=true):∃f fd,Fn K mg x st f fd ps :=
 have F:=qi l c k
 ⟨f,_,F,PySem.W.mg_of X G a,F.binds j⟩
theorem qj(j:aM x qual st ps)(a:PySem.W.findIn K (.ref C) x=some (some (.ref f)))(i:PySem.W.isFn K (.ref f)=true)(l:K.lookup f=some ⟨oc,od,.func (fdOf x qual st kV doc pm an cdv ct),osl⟩)(c:PySem.W.codeIn K cdv qual=true)(k:PySem.W.keepIn K (.ref f)=true):∃f fd,Fm K C x qual st f fd ps :=
 have F:=qi l c k
 ⟨f,_,F,F.binds j,a,i,k⟩
structure M4 (K:PySem.W.Frag) (mg:Str→Option Value) (x qual:Str) (st:Stmt) (ps:List Str) (C f:Addr) (fd:FuncData):Prop where
 cl:CW K C
 m:mg x=some (.ref C)
 mk_:Mk K C f
 F:fc K "__init__" qual st f fd
 b:Binds K fd ps []
theorem Vk(D:aM "__init__" qual st ps)(X:K.In h)(G:h.Ns mainGlobals mg)(j:PySem.W.nsIn K mainGlobals x=some (some (.ref C)))(pg:PySem.W.plainGet K C Str.empty=true)(hd:PySem.W.hasDictIn K C=true)(po:PySem.W.plainOver K C=true)(sa:PySem.W.findIn K (.ref C) "__setattr__"=some (some (.builtin "object.__setattr__")))
  (mk:PySem.W.makesIn K C=true) (z:PySem.W.keepIn K (.ref C)=true) (a:PySem.W.findIn K (.ref C) "__init__"=some (some (.ref f))) (i:PySem.W.isFn K (.ref f)=true) (l:K.lookup f=some ⟨oc,od,.func (fdOf "__init__" qual st kV doc pm an cdv ct),osl⟩) (c:PySem.W.codeIn K cdv qual=true) (k:PySem.W.keepIn K (.ref f)=true) :
  ∃f fd,M4 K mg x qual st ps C f fd :=
 have F:=qi l c k
 ⟨f,_,⟨pg,hd,po,sa⟩,PySem.W.mg_of X G j,⟨mk,a,i,z⟩,F,F.binds D⟩
theorem Tf{nm q:Str}{N:Addr}{bs bm:List Value}{hdct:Bool}{sn:List Str}{sub:List Value}{ab:Bool}{col:Option Bool}{dd:Option Addr}{k0 k1 k2 k3 k5:Option Value}(j:K.lookup C=some (excClassObj nm q C N bs bm hdct sn sub ab col dd k0 k1 k2 k3 k5 "Exception.__new__"))(e1:bm.contains (.type "Exception")=true)(e2:bm.contains (.type "AttributeError")=false)(e3:bm.contains (.type "NameError")=false)(z:bm.contains (.type "BaseException")=true) :
  ∃nm q N bs bm hdct sn sub ab col dd k0 k1 k2 k3 k5,K.lookup C=some (excClassObj nm q C N bs bm hdct sn sub ab col dd k0 k1 k2 k3 k5 "Exception.__new__")∧bm.contains (.type "Exception")=true∧bm.contains (.type "AttributeError")=false∧bm.contains (.type "NameError")=false∧bm.contains (.type "BaseException")=true :=
 ⟨_,_,_,_,_,_,_,_,_,_,_,_,_,_,_,_,j,e1,e2,e3,z⟩
structure Cz (K:PySem.W.Frag) (mg:Str→Option Value) (x qual:Str) (st:Stmt) (Rc C f:Addr) (fd:FuncData):Prop where
 made:Wk K C f
 cls:pI K C
 m:mg x=some (.ref C)
 F:fc K "__init__" qual st f fd
 b:Binds K fd ["self"] []
 ex:PySem.W.exmOne K (.ref C) (.ref Rc)=some true
theorem Ti{Rc:Addr}(D:aM "__init__" qual st ["self"])(X:K.In h)(G:h.Ns mainGlobals mg)(j:PySem.W.nsIn K mainGlobals x=some (some (.ref C)))
  (cls:∃nm q N bs bm hdct sn sub ab col dd k0 k1 k2 k3 k5,K.lookup C=some (excClassObj nm q C N bs bm hdct sn sub ab col dd k0 k1 k2 k3 k5 "Exception.__new__")∧bm.contains (.type "Exception")=true∧bm.contains (.type "AttributeError")=false∧bm.contains (.type "NameError")=false∧bm.contains (.type "BaseException")=true)
  (z:PySem.W.keepIn K (.ref C)=true) (a:PySem.W.findIn K (.ref C) "__init__"=some (some (.ref f))) (i:PySem.W.isFn K (.ref f)=true) (l:K.lookup f=some ⟨oc,od,.func (fdOf "__init__" qual st kV doc pm an cdv ct),osl⟩) (c:PySem.W.codeIn K cdv qual=true) (k:PySem.W.keepIn K (.ref f)=true)
  (over:gZ K C=true) (sa:PySem.W.findIn K (.ref C) "__setattr__"=some (some (.builtin "object.__setattr__"))) (tk:PySem.W.takerIn K C "number"=some none) (hd:PySem.W.hasDictIn K C=true) (ga:PySem.W.findIn K (.ref C) "__getattribute__"=some (some (.builtin "BaseException.__getattribute__"))) (gh:PySem.W.findIn K (.ref C) "__getattr__"=some none) (nn:PySem.W.findIn K (.ref C) "number"=some none)
  (ex:PySem.W.exmOne K (.ref C) (.ref Rc)=some true):∃C f fd,Cz K mg x qual st Rc C f fd :=
 have F:=qi l c k
 ⟨C,f,_,⟨cls,a,i,z⟩,⟨over,sa,tk,hd,ga,gh,nn⟩,PySem.W.mg_of X G j,F,F.binds D,ex⟩
end
noncomputable def isAbsent(K:PySem.W.Frag)(x:Str):Bool:=match PySem.W.nsIn K mainGlobals x with
 | some none=>true
 | _=>false
noncomputable def Ei(H:Str→Int):List (Str×Int)→List DictEntry→Prop
 | [],[]=>True
 | p::r,e::s=>(∃t t',e.key=.str p.1 t∧e.val=.int p.2 t')∧e.hash=H p.1∧Ei H r s
 | _,_=>False
theorem Eh{H:Str→Int}:∀{l:List (Str×Int)}{es:List DictEntry},Ei H l es→es.length=l.length
 | [],[],_=>rfl
 | p::r,e::s,h=>by simp only[cr];rw[Eh h.2.2]
 | [],e::s,h=>h.elim
 | p::r,[],h=>h.elim
theorem zu{P:Program}{w:World}:∀{l:List (Str×Int)}{es:List DictEntry},Ei (hashStr w) l es→∃vs:List (Key×Value),KV (l.map fun p=>(Sum.inr p.1,V.int p.2)) vs∧Pairs (cJ P w) es vs∧vs.map (·.1)=l.map (fun p=>(Sum.inr p.1:Key))∧∀e∈es,∃k,(cJ P w).is k e.key=true∧e.hash=(cJ P w).hash k
 | [],[],_=>⟨[],.nil,.nil,rfl,fun e h=>by cases h⟩
 | p::r,e::s,h=>by
  obtain⟨vs,h1,h2,D,J⟩:=zu (P:=P) h.2.2
  obtain⟨t,t',z,F⟩:=h.1
  refine⟨(Sum.inr p.1,e.val)::vs,.cons ⟨rfl,by rw[F];exact⟨t',rfl⟩⟩ h1,.cons (by show(cJ P w).is (Sum.inr p.1) e.key=true;rw[z];exact j_ P w _ t) rfl h2,by rw[i6,i6,D],fun G j=>?_⟩
  rcases hU.mp j with rfl | j
  ·exact⟨Sum.inr p.1,by rw[z];exact j_ P w _ t,h.2.1⟩
  ·exact J G j
 | [],e::s,h=>h.elim
 | p::r,[],h=>h.elim
theorem zN:(ALONE.map fun p=>(Sum.inr p.1:Key)).Nodup:=by decide +kernel
theorem kdx{K:PySem.W.Frag}{w:World}{h:Heap}{mg:Str→Option Value}{d:Addr}{es:List DictEntry}{ep:Nat}(X:K.In h)(G:h.Ns mainGlobals mg)(a:PySem.W.nsIn K mainGlobals "READ_ALONE"=some (some (.ref d)))(l:K.lookup d=some ⟨.type "dict",none,.dict es.toArray ep,#[]⟩)(F:(d==sysModules)=false)(z:Ei (hashStr w) ALONE es) :
  ∃d,mg "READ_ALONE"=some (.ref d)∧KDict K w d mK:=by
 refine⟨d,PySem.W.mg_of X G a,F,fun P=>?_⟩
 obtain⟨vs,h1,h2,D,J⟩:=zu (P:=P) z
 refine⟨_,es.toArray,ep,vs,l,⟨rfl,rfl,rfl⟩,rfl,?_,h1,fun e j=>J e (by simpa using j),by simpa using h2,by rw[D];exact zN⟩
 rw[ib,Eh z]
 unfold mK
 rw[ap]
end SB
end
end
section
namespace SB
open PySem PySem.Spec PyProof.Rows L2 XL
open Vbdeaa (Text Exp Exps Un Bin Ins)
variable {P:Program} {w:World} {K:PySem.W.Frag} {mg:Str→Option Value} {base:Heap}
theorem KDict.of{X:Cx}{pins:List (Addr×Obj)}{σ:L2.St}{H:Hp}{s:Shared}{d:Addr}{kvs:List (Key×V)}(D:KDict X.K X.w d kvs)(I:Inv X pins σ H s):∃vs,KV kvs vs∧s.heap.DictOf (cJ X.prog X.w) d vs:=by
 obtain⟨o,es,ep,vs,h1,h2,j,L,F,z,G,J⟩:=D.ex X.prog
 exact⟨vs,F,o,es,ep,I.oZ _ _ h1,h2,j,z,G,J⟩
noncomputable def Vu(kvs:List (Key×V))(ty:TE):TE:=fun σ H Q=>ty σ H fun y H1=>∃k,y=kV k∧Q (.bl (pN kvs k).isSome) H1
noncomputable def Vt(kvs:List (Key×V))(ty:TE):TE:=fun σ H Q=>ty σ H fun y H1=>∃k v,y=kV k∧pN kvs k=some v∧Q v H1
theorem Ky{X:Cx}{x:Str}{i:Expr}{p:Pos}{d:Addr}{kvs:List (Key×V)}{ty:TE}(O:Gl X x)(G:X.mg x=some (.ref d))(D:KDict X.K X.w d kvs)(hi:PE X i ty)(j:(x==("__debug__" : Str))=false:=by decide):PC X .In i (.Name x p) (Vu kvs ty):=by
 intro pins s σ H Q I h
 refine cG (hi pins s σ H _ I h) fun U s1 ⟨y,H1,J,L,k,F,q⟩=>cG (b_ (v:=.ref d) O G rfl j pins s1 σ H1 (fun v H2=>v=.ref d∧H2=H1) J ⟨rfl,rfl⟩) fun u s2 ⟨v,H2,z,S,e1,e2⟩=>?_
 subst F e1 e2
 obtain rfl:u=Value.ref d:=S
 obtain⟨vs,rel,dd⟩:=D.of z
 refine wpAny_in_of (QM L) D.ns dd.mapOf ?_
 rw[←(rel.val k).G6]
 exact⟨.bl _,H2,z.tok _,rfl,q⟩
theorem Kv{X:Cx}{x:Str}{i:Expr}{p pos:Pos}{d:Addr}{kvs:List (Key×V)}{ty:TE}(Y:Gl X x)(O:X.mg x=some (.ref d))(KD:KDict X.K X.w d kvs)(hi:PE X i ty)(L:Va i)(j:(x==("__debug__" : Str))=false:=by decide):PE X (.Subscript (.Name x p) i pos) (Vt kvs ty):=by
 intro pins s σ H Q I h
 refine Nr PySem.F.slot_dict_getitem.lookup L (cG (b_ (v:=.ref d) Y O rfl j pins s σ H (fun v H2=>v=.ref d∧H2=H) I ⟨rfl,rfl⟩) fun u s1 ⟨v,H1,S,Z,e1,e2⟩=>?_)
 subst e1 e2
 obtain rfl:u=Value.ref d:=Z
 refine cG (hi pins s1 σ H1 _ S h) fun iv s2 hz=>?_
 obtain⟨y,H2,D,U,k,v,G,J,q⟩:=hz
 subst G
 obtain⟨vs,rel,dd⟩:=KD.of D
 obtain⟨w',hw,z⟩:=n_.some_of (v:=v) (o:=valueAt vs k) (by rw[←J];exact rel.val k)
 exact⟨dd.typeIs,wpAny_getItem_of (QM U) dd.mapOf hw ⟨v,H2,D.tok _,z,q⟩⟩
noncomputable def jM(a h t:Str):Str:=Hi a (some (h.length:Nat)) (some ((a.length:Nat)-(t.length:Nat)))
noncomputable def Hx(a h t:Str):Bool:=Txt.startswith a h&&Txt.endswith a t
noncomputable def eY(a h t:Str)(c:Int):Int:=if Hx a h t=true then(if Txt.isdigit (jM a h t)=true then(match PySem.intText? (jM a h t)with
 | none=>-1
 | some m=>if u9 m=jM a h t then(if c≤m then -1 else m)else -1)else -1)else -1
noncomputable def Nf(a h t:Str):Bool:=decide (a.length≤100)&&(decide (h.length≤100)&&(decide (t.length≤100)&&(!(Hx a h t&&Txt.isdigit (jM a h t))||(match PySem.intText? (jM a h t)with
 | none=>false
 | some m=>decide (m.natAbs<2 ^ 1900)))))
noncomputable def jQ:Sp:=fun vs H Q _=>∃(a h t:Str)(c:Int),vs=[.str a,.str h,.str t,.int c]∧Nf a h t=true∧Q (.int (eY a h t c)) H
noncomputable abbrev jg:Stmt:=top 38
section
theorem ue:aK ["name","head","tail","count","digits","number"] ["name","head","tail","count"] (aD jg):=⟨rfl,rfl,rfl,by decide +kernel,rfl,by decide +kernel,by decide +kernel⟩
theorem Gr{f:Addr}{fd:FuncData}(F:Fn K mg "number_within" jg f fd ["name","head","tail","count"])(j:mg "len"=none)(hint:mg "int"=none)(G:mg "str"=none):aF P w K mg base (aW P w) 1 f fd ["name","head","tail","count"] jQ:=by
 refine dZ F.F ue (fun vs H Q E h=>?_) (fun cdv A outer s H vs Q E hr h=>?_)
 ·obtain⟨_,_,_,_,rfl,_⟩:=h
  rfl
 ·obtain⟨a,h,t,c,rfl,O,k⟩:=h
  unfold Nf at O
  simp only[ia,jI]at O
  obtain⟨g1,g2,g3,D⟩:=O
  refine⟨_,aq (aX (PW.pt (m_ (jX (eG (gC PySem.F.plainAttrs_str PySem.F.slot_str_startswith PySem.F.type_str_startswith vf (pv 0) (aj (pv 1) au)))) (jV (jX (eG (gC PySem.F.plainAttrs_str PySem.F.slot_str_endswith PySem.F.type_str_endswith yX (pv 0) (aj (pv 2) au))))))) (ao (aV (eN cW aB))) aP)
   (aq (bw (i:=4) ue.nd rfl (Or.inl rfl) (jZ Rh (pv 0) (gU (bW gn (by rfl) j (by decide +kernel) (aj (pv 1) au))) (gU (dw uz (bW gn (by rfl) j (by decide +kernel) (aj (pv 0) au)) (bW gn (by rfl) j (by decide +kernel) (aj (pv 2) au))))))
   (aq (aX (jX (eG (Be PySem.F.plainAttrs_str PySem.F.slot_str_isdigit PySem.F.type_str_isdigit Bm (pv 4)))) (ao (aV (eN cW aB))) aP)
   (aq (bw (i:=5) ue.nd rfl (Or.inl rfl) (iJ xU (by rfl) hint (by decide +kernel) (aj (pv 4) au)))
   (aq (aX (PW.pt (m_ (aG vH (iJ pA (by rfl) G (by decide +kernel) (aj (pv 5) au)) (pv 4) (aL _)) (jV (aG qH (pv 5) (pv 3) (aL _))))) (ao (aV (eN cW aB))) aP)
   (ao (aV (pv 5))))))),?_⟩
  have out:eY a h t c=-1→Q (.int (-1)) H:=fun e=>by rw[←e];exact k
  have hsz:(1000:Nat)≤sizeLine:=by decide
  refine⟨_,rfl,rfl,_,rfl,a,h,rfl,rfl,Txt.startswith a h,rfl,?_⟩
  cases e1:Txt.startswith a h with
  | false=>exact bh (bh ⟨1,rfl,out (by unfold eY Hx;rw[e1];rfl)⟩)
  | true =>
   refine aR ⟨_,rfl,rfl,_,rfl,a,t,rfl,rfl,Txt.endswith a t,rfl,?_⟩
   cases e2:Txt.endswith a t with
   | false=>exact bh ⟨1,rfl,out (by unfold eY Hx;rw[e1,e2];rfl)⟩
   | true =>
    have S:Hx a h t=true:=by unfold Hx;rw[e1,e2];rfl
    refine aR ⟨_,rfl,_,rfl,h,rfl,by omega,_,rfl,_,rfl,a,rfl,by omega,_,rfl,t,rfl,by omega,_,_,rfl,rfl,_,rfl,a,rfl,by omega,?_⟩
    refine⟨_,rfl,rfl,_,rfl,rfl,trivial,Txt.isdigit (jM a h t),rfl,?_⟩
    cases e3:Txt.isdigit (jM a h t)with
    | false=>exact bh ⟨1,rfl,out (by unfold eY;rw[S,e3];rfl)⟩
    | true =>
     rw[S,e3]at D
     obtain⟨m,Y,L⟩:∃m,PySem.intText? (jM a h t)=some m∧m.natAbs<2 ^ 1900:=by
      cases Z:PySem.intText? (jM a h t)with
      | none=>rw[Z]at D;cases D
      | some m=>rw[Z]at D;exact⟨m,rfl,jv D⟩
     have J:(jM a h t).length≤100:=iq (kW _ _ _) g1
     have ev:eY a h t c=if u9 m=jM a h t then(if c≤m then -1 else m)else -1:=by
      unfold eY
      rw[j4 S,j4 e3,Y]
     have U:m.natAbs.log2<1920:=by
      by_cases z:m.natAbs=0
      ·rw[z];decide
      ·exact Nat.lt_trans ((Nat.log2_lt z).mpr L) (by decide)
     refine aR ⟨_,rfl,_,m,rfl,Y,iq J (by decide),?_⟩
     refine⟨_,rfl,m,rfl,U,_,rfl,rfl,_,rfl,?_⟩
     refine fQ (fun h1=>?_) fun h1=>?_
     ·refine bh ⟨1,rfl,out ?_⟩
      rw[ev,js]
      intro z
      have h1:(!decide (V.str (u9 m)=V.str (jM a h t)))=true:=h1
      rw[z,i9 rfl]at h1
      cases h1
     ·have hz:u9 m=jM a h t:=by
       apply Classical.byContradiction
       intro z
       have h1:¬(!decide (V.str (u9 m)=V.str (jM a h t)))=true:=h1
       exact h1 (by rw[j5 (fun y=>z (V.str.inj y))];rfl)
      refine⟨_,rfl,_,rfl,_,_,rfl,rfl,_,rfl,fQ (fun h2=>?_) fun h2=>?_⟩
      ·have h2:c≤m:=jv h2
       exact⟨1,rfl,out (by rw[ev,j4 hz,j4 h2])⟩
      ·have h2:¬c≤m:=fun z=>h2 (i9 z)
       refine⟨_,rfl,?_⟩
       rw[ev,j4 hz,js h2]at k
       exact k
end
noncomputable def Ds(a:Str)(r:Str×Str×Int×Int):Bool:=decide (0≤eY a r.1 r.2.1 r.2.2.2)
noncomputable def j7(a:Str):Int:=match ALONE.find? (fun p=>decide (p.1=a))with
 | some p=>p.2
 | none=>match ROWS.find? (Ds a)with
  | some r=>r.2.2.1+eY a r.1 r.2.1 r.2.2.2
  | none=>-1
noncomputable def R8(a:Str):Bool:=ROWS.all fun r=>Nf a r.1 r.2.1
theorem vy(a:Str):pN mK (Sum.inr a)=(ALONE.find? (fun p=>decide (p.1=a))).map fun p=>V.int p.2:=by
 unfold pN mK
 rw[List.find?_map,Option.map_map]
 have:((fun j:Key×V=>decide (j.1=Sum.inr a)) ∘ fun p:Str×Int=>((Sum.inr p.1:Key),V.int p.2))=fun p=>decide (p.1=a):=by
  funext p
  show decide ((Sum.inr p.1:Key)=Sum.inr a)=decide (p.1=a)
  exact Lp _ _
 rw[this]
 rfl
noncomputable def Jd:Sp:=fun vs H Q _=>∃a:Str,vs=[.str a]∧R8 a=true∧Q (.int (j7 a)) H
noncomputable abbrev JQ:Stmt:=top 39
section
theorem vD:aK ["name","head","tail","first","count","number"] ["name"] (aD JQ):=⟨rfl,rfl,rfl,by decide +kernel,rfl,by decide +kernel,by decide +kernel⟩
theorem RV{f fW:Addr}{fd dW:FuncData}(F:Fn K mg "number_of_read" JQ f fd ["name"])(T:CM K w mg)(Z:Fn K mg "number_within" jg fW dW ["name","head","tail","count"])(GW:aF P w K mg base (aW P w) 1 fW dW ["name","head","tail","count"] jQ):aF P w K mg base (aW P w) 2 f fd ["name"] Jd:=by
 obtain⟨d,hd,KD⟩:=T.RA
 obtain⟨ur,vr,af,rr,ae⟩:=T.RR
 obtain⟨ra,L,rfl,O,j⟩:=ae.tup
 refine dZ F.F vD (fun vs H Q E h=>?_) (fun cdv A outer s H vs Q E hr h=>?_)
 ·obtain⟨_,rfl,_⟩:=h
  rfl
 ·obtain⟨a,rfl,hg,k⟩:=h
  refine⟨_,aq (aX (Ba (Ky rfl hd KD (pv 0))) (ao (aV (Kv rfl hd KD (pv 0) (fun _ _=>rfl)))) aP)
   (aq (uq rC rfl (Kg (b_ rfl af rr)) (Kh rfl (iI (cX (i:=1) vD.nd rfl (Or.inl rfl)) (iI (cX (i:=2) vD.nd rfl (Or.inl rfl)) (iI (cX (i:=3) vD.nd rfl (Or.inl rfl)) (iI (cX (i:=4) vD.nd rfl (Or.inl rfl)) Dz)))))
    (aq (bw (i:=5) vD.nd rfl (Or.inl rfl) (a_ GW hr rfl Z.m Z.F.kp Z.b .nil passes (aj (pv 0) (aj (pv 1) (aj (pv 2) (aj (pv 4) au))))))
     (ao (aX (aG qH (pv 5) aB (aL _)) (ao (aV (dw pZ (pv 3) (pv 5)))) aP))))
   (ao (aV (eN cW aB)))),?_⟩
  refine⟨_,rfl,Sum.inr a,rfl,_,rfl,?_⟩
  rw[vy]
  cases G:ALONE.find? (fun p=>decide (p.1=a))with
  | some p =>
   have ev:j7 a=p.2:=by unfold j7;rw[G]
   refine bh ⟨_,rfl,Sum.inr a,.int p.2,rfl,by rw[vy,G];rfl,?_⟩
   rw[ev]at k
   exact k
  | none =>
   refine aR ⟨ra,rfl,⟨_,O H⟩,Ef (K:=K) (a:=ra) (xs:=L) (fun i σ H'=>∃U w2 w3 w4 Y:Option V,σ=[some (.str a),U,w2,w3,w4,Y]∧H'=H∧(ROWS.take i).find? (Ds a)=none) ⟨none,none,none,none,none,rfl,rfl,rfl⟩ (fun i σ H' _ _=>O H') ?_ ?_⟩
   ·rintro i x σ H' hi ⟨U,w2,w3,w4,Y,rfl,rfl,S⟩
    have D:L.length=ROWS.length:=by
     have:=Paired.length j
     rw[ap]at this
     exact this.symm
    have il:i<L.length:=(hZ.mp hi).1
    obtain⟨r,J⟩:∃r,ROWS[i]?=some r:=⟨_,ii (by rw[D]at il;exact il)⟩
    obtain⟨y,hy,hc⟩:=d_ j (i:=i) (a:=J1 r) (by rw[iE,J];rfl)
    rw[hi]at hy
    cases hy
    obtain⟨a2,ys,rfl,ac,aa⟩:=jG.tup hc
    have ey:ys=[V.str r.1,V.str r.2.1,V.int r.2.2.1,V.int r.2.2.2]:=by
     cases aa with
     | cons a b=>cases b with
      | cons c d=>cases d with
       | cons e f=>cases f with
        | cons g h' =>
         cases h'
         rw[jG.str a,jG.str c,jG.int e,jG.int g]
    subst ey
    have ag:Nf a r.1 r.2.1=true:=j6.mp hg r (j' J)
    refine⟨a2,_,rfl,ac _,rfl,_,_,rfl,_,_,rfl,_,_,rfl,_,_,rfl,rfl,?_⟩
    refine⟨_,rfl,_,rfl,_,rfl,_,rfl,a,r.1,r.2.1,r.2.2.2,rfl,ag,?_⟩
    refine⟨_,rfl,_,_,rfl,rfl,_,rfl,fQ (fun h1=>?_) fun h1=>?_⟩
    ·have h1:0≤eY a r.1 r.2.1 r.2.2.2:=jv h1
     have ev:j7 a=r.2.2.1+eY a r.1 r.2.1 r.2.2.2:=by
      unfold j7
      rw[G,kI J S (i9 h1)]
     rw[ev]at k
     exact⟨_,rfl,_,rfl,_,_,rfl,rfl,k⟩
    ·exact⟨_,_,_,_,_,rfl,rfl,kJ J S (j5 fun z=>h1 (i9 z))⟩
   ·rintro σ H1 ⟨U,w2,w3,w4,Y,rfl,rfl,S⟩
    have D:L.length=ROWS.length:=by
     have:=Paired.length j
     rw[ap]at this
     exact this.symm
    rw[D,List.take_length]at S
    have ev:j7 a=-1:=by unfold j7;rw[G,S]
    rw[ev]at k
    exact⟨1,rfl,k⟩
end
end SB
end
section
namespace SB
open PySem PySem.Spec PyProof.Rows L2 XL
variable {P:Program} {w:World} {K:PySem.W.Frag} {mg:Str→Option Value} {base:Heap}
structure CR (K:PySem.W.Frag) (mg:Str→Option Value):Prop where
 FO:GC K mg "FORMULAS" (.i 64)
 TA:GC K mg "TABLES" (.i 64)
 MA:GC K mg "MOST_ARGUMENTS" (.i 8)
end SB
end
section
namespace SB
open PySem PySem.Spec PyProof.Rows L2 XL
open Vbdeaa (Text Exp Exps Un Bin Ins)
variable {P:Program} {w:World} {K:PySem.W.Frag} {mg:Str→Option Value} {base:Heap}
noncomputable abbrev wM:Stmt:=inClass (top 31) 0
noncomputable def S9(H:Hp)(Q:VK)(row:List Int):Prop:=∀t H',H t=none→aA H H'→H' t=some (.tup (vI row))→Q (.ref t) H'
noncomputable def jC(n:Int)(a:Str):Option (List Int) :=
 if 0≤eY a "a" "" n then some [1,eY a "a" "" n]else if 0≤eY a "g" "" 64 then some [8,eY a "g" "" 64,0]else if 0≤j7 a then some [2,j7 a]else none
noncomputable def d9(n:Int)(a:Str):Option (List Int) :=
 if 0≤eY a "g" "" 64∧n≤8 then some [8,eY a "g" "" 64,n]else if 0≤eY a "t" "" 64∧n=1 then some [7,eY a "t" "" 64]else none
noncomputable def gk(a:Str):Bool:=Nf a "a" "" && (Nf a "g" "" && (Nf a "t" "" && R8 a))
noncomputable def Am(Cx:Addr):Sp:=fun vs H Q E=>∃(a:Str)(n:Int),vs=[.str a,.int n]∧gk a=true∧(∀row,jC n a=some row→S9 H Q row)∧(jC n a=none→bz Cx (-8) H E)
noncomputable def uc(Cx:Addr):Sp:=fun vs H Q E=>∃(a:Str)(n:Int),vs=[.str a,.int n]∧gk a=true∧(∀row,d9 n a=some row→S9 H Q row)∧(d9 n a=none→bz Cx (-8) H E)
noncomputable abbrev yL:Stmt:=top 40
noncomputable abbrev oN:Stmt:=top 41
section
theorem Jp:aK ["self"] ["self"] (aD wM):=⟨rfl,rfl,rfl,by decide +kernel,rfl,by decide +kernel,by decide +kernel⟩
theorem KQ{f z R:Addr}{fd j:FuncData}(F:fc K "__init__" "WrongName.__init__" wM f fd)(D:fc K "__init__" "Refusal.__init__" vd z j)(O:Binds K j ["self","number"] [])(J:mg "Refusal"=some (.ref R))(CR:h_ K R "__init__" z)(hex:mg "Exception"=none):aF P w K mg base (aW P w) 2 f fd ["self"] (Ny K (-8)):=by
 have GR:aF P w K mg base (aW P w) 1 z j _ _:=p_ D hex
 refine dZ F Jp (fun vs H Q E h=>?_) (fun cdv A outer s H vs Q E G h=>?_)
 ·obtain⟨_,_,rfl,_⟩:=h
  rfl
 ·obtain⟨x,C,rfl,hx,L,k⟩:=h
  refine⟨_,ao (aN (lK (b_ rfl J rfl) CR GR G O .nil passes (aj (pv 0) (aj (eN cW aB) au)))),?_⟩
  exact⟨_,rfl,_,rfl,x,C,-8,rfl,hx,L,k⟩
theorem lQ{H:Hp}{Q:VK}{row:List Int}(h:S9 H Q row):∀t,H t=none→Q (.ref t) (L2.upd H t (.tup (vI row))):=fun t j=>h t _ j (aA.upd j) ak
theorem wL:aK ["name","n","parameter","formula","read"] ["name","n"] (aD yL):=⟨rfl,rfl,rfl,by decide +kernel,rfl,by decide +kernel,by decide +kernel⟩
theorem O6{f Y Z Cx fI:Addr}{fd U dN dI:FuncData}(F:Fn K mg "bare_name_instruction" yL f fd ["name","n"])(D:Fn K mg "number_within" jg Y U ["name","head","tail","count"])(GW:aF P w K mg base (aW P w) 1 Y U ["name","head","tail","count"] jQ)
  (O:Fn K mg "number_of_read" JQ Z dN ["name"]) (GN:aF P w K mg base (aW P w) 2 Z dN ["name"] Jd) (X:XC P w K mg base "WrongName" Cx fI dI (-8)) (R:CR K mg):aF P w K mg base (aW P w) 4 f fd ["name","n"] (Am Cx):=by
 refine dZ F.F wL (fun vs H Q E h=>?_) (fun cdv A outer s H vs Q E L h=>?_)
 ·obtain⟨_,_,rfl,_⟩:=h
  rfl
 ·obtain⟨a,n,rfl,S,k,kr⟩:=h
  unfold gk at S
  simp only[ia]at S
  obtain⟨g1,g2,g3,g4⟩:=S
  have G:bH 1 _:=L.mono (by omega)
  have J:bH 2 _:=L.mono (by omega)
  refine⟨_,aq (bw (i:=2) wL.nd rfl (Or.inl rfl) (a_ GW G rfl D.m D.F.kp D.b .nil passes (aj (pv 0) (aj bA (aj bA (aj (pv 1) au))))))
   (aq (aX (aG qH (pv 2) aB (aL _)) (ao (aV (bJ (aj aB (aj (pv 2) au))))) aP)
   (aq (bw (i:=3) wL.nd rfl (Or.inl rfl) (a_ GW G rfl D.m D.F.kp D.b .nil passes (aj (pv 0) (aj bA (aj bA (aj (bu rfl R.FO) au))))))
   (aq (aX (aG qH (pv 3) aB (aL _)) (ao (aV (bJ (aj aB (aj (pv 3) (aj aB au)))))) aP)
   (aq (bw (i:=4) wL.nd rfl (Or.inl rfl) (a_ GN J rfl O.m O.F.kp O.b .nil passes (aj (pv 0) au)))
   (aq (aX (aG qH (pv 4) aB (aL _)) (ao (aV (bJ (aj aB (aj (pv 4) au))))) aP)
   (ao (bO X.made X.cls X.ok L rfl X.m X.b rfl bF))))))),?_⟩
  refine⟨_,rfl,_,rfl,a,"a","",n,rfl,g1,?_⟩
  refine⟨_,rfl,_,_,rfl,rfl,_,rfl,fQ (fun h1=>?_) fun h1=>?_⟩
  ·have h1:0≤eY a "a" "" n:=jv h1
   exact⟨_,rfl,(by show 2≤sizeLine;decide),lQ (k [1,eY a "a" "" n] (by unfold jC;rw[j4 h1]))⟩
  have h1:¬0≤eY a "a" "" n:=fun z=>h1 (i9 z)
  refine⟨_,rfl,a,"g","",64,rfl,g2,?_⟩
  refine⟨_,rfl,_,_,rfl,rfl,_,rfl,fQ (fun h2=>?_) fun h2=>?_⟩
  ·have h2:0≤eY a "g" "" 64:=jv h2
   exact⟨_,rfl,(by show 3≤sizeLine;decide),lQ (k [8,eY a "g" "" 64,0] (by unfold jC;rw[js h1,j4 h2]))⟩
  have h2:¬0≤eY a "g" "" 64:=fun z=>h2 (i9 z)
  refine⟨_,rfl,a,rfl,g4,?_⟩
  refine⟨_,rfl,_,_,rfl,rfl,_,rfl,fQ (fun j=>?_) fun j=>?_⟩
  ·have j:0≤j7 a:=jv j
   exact⟨_,rfl,(by show 2≤sizeLine;decide),lQ (k [2,j7 a] (by unfold jC;rw[js h1,js h2,j4 j]))⟩
  have j:¬0≤j7 a:=fun z=>j (i9 z)
  have bad:bz Cx (-8) H E:=kr (by unfold jC;rw[js h1,js h2,js j])
  exact fun e d H' s' x1 x2=>bad e d H' s' x1 x2
theorem uh:aK ["name","count","formula","table"] ["name","count"] (aD oN):=⟨rfl,rfl,rfl,by decide +kernel,rfl,by decide +kernel,by decide +kernel⟩
theorem Gw{f S Cx fI:Addr}{fd L dI:FuncData}(F:Fn K mg "called_name_instruction" oN f fd ["name","count"])(D:Fn K mg "number_within" jg S L ["name","head","tail","count"])(U:aF P w K mg base (aW P w) 1 S L ["name","head","tail","count"] jQ)
  (X:XC P w K mg base "WrongName" Cx fI dI (-8)) (R:CR K mg):aF P w K mg base (aW P w) 4 f fd ["name","count"] (uc Cx):=by
 refine dZ F.F uh (fun vs H Q E h=>?_) (fun cdv A outer s H vs Q E O h=>?_)
 ·obtain⟨_,_,rfl,_⟩:=h
  rfl
 ·obtain⟨a,n,rfl,J,k,Y⟩:=h
  unfold gk at J
  simp only[ia]at J
  obtain⟨g1,g2,g3,Z⟩:=J
  have G:bH 1 _:=O.mono (by omega)
  refine⟨_,aq (bw (i:=2) uh.nd rfl (Or.inl rfl) (a_ U G rfl D.m D.F.kp D.b .nil passes (aj (pv 0) (aj bA (aj bA (aj (bu rfl R.FO) au))))))
   (aq (aX (PW.pt (jW (aG qH (pv 2) aB (aL _)) (gR (aG nj (pv 1) (bu rfl R.MA) (aL _))))) (ao (aV (bJ (aj aB (aj (pv 2) (aj (pv 1) au)))))) aP)
   (aq (bw (i:=3) uh.nd rfl (Or.inl rfl) (a_ U G rfl D.m D.F.kp D.b .nil passes (aj (pv 0) (aj bA (aj bA (aj (bu rfl R.TA) au))))))
   (aq (aX (PW.pt (jW (aG qH (pv 3) aB (aL _)) (gR (aG cz (pv 1) aB (aL _))))) (ao (aV (bJ (aj aB (aj (pv 3) au))))) aP)
   (ao (bO X.made X.cls X.ok O rfl X.m X.b rfl bF))))),?_⟩
  refine⟨_,rfl,a,"g","",64,rfl,g2,?_⟩
  by_cases h1:0≤eY a "g" "" 64∧n≤8
  ·refine⟨_,rfl,_,_,rfl,rfl,_,rfl,fQ (fun j=>?_) fun j=>absurd (i9 h1.1) j⟩
   refine⟨_,rfl,_,_,rfl,rfl,_,rfl,fQ (fun z=>?_) fun z=>absurd (i9 h1.2) z⟩
   exact⟨_,rfl,_,rfl,(by show 3≤sizeLine;decide),lQ (k [8,eY a "g" "" 64,n] (by unfold d9;rw[j4 h1]))⟩
  ·refine⟨_,rfl,_,_,rfl,rfl,_,rfl,fQ (fun j=>?_) fun j=>aR ?_⟩
   ·refine⟨_,rfl,_,_,rfl,rfl,_,rfl,fQ (fun z=>absurd ⟨jv j,jv z⟩ h1) fun z=>?_⟩
    refine⟨_,rfl,a,"t","",64,rfl,g3,?_⟩
    by_cases h2:0≤eY a "t" "" 64∧n=1
    ·refine⟨_,rfl,_,_,rfl,rfl,_,rfl,fQ (fun j=>?_) fun j=>absurd (i9 h2.1) j⟩
     refine⟨_,rfl,rfl,_,rfl,fQ (fun z=>?_) fun z=>absurd (i9 (by rw[h2.2])) z⟩
     exact⟨_,rfl,(by show 2≤sizeLine;decide),lQ (k [7,eY a "t" "" 64] (by unfold d9;rw[js h1,j4 h2]))⟩
    ·have bad:bz Cx (-8) H E:=Y (by unfold d9;rw[js h1,js h2])
     refine⟨_,rfl,_,_,rfl,rfl,_,rfl,fQ (fun j=>?_) fun j=>aR (fun e d H' s' x1 x2=>bad e d H' s' x1 x2)⟩
     exact⟨_,rfl,rfl,_,rfl,fQ (fun z=>absurd ⟨jv j,V.int.inj (jv z)⟩ h2) fun z=>fun e d H' s' x1 x2=>bad e d H' s' x1 x2⟩
   ·refine⟨_,rfl,a,"t","",64,rfl,g3,?_⟩
    by_cases h2:0≤eY a "t" "" 64∧n=1
    ·refine⟨_,rfl,_,_,rfl,rfl,_,rfl,fQ (fun j=>?_) fun j=>absurd (i9 h2.1) j⟩
     refine⟨_,rfl,rfl,_,rfl,fQ (fun z=>?_) fun z=>absurd (i9 (by rw[h2.2])) z⟩
     exact⟨_,rfl,(by show 2≤sizeLine;decide),lQ (k [7,eY a "t" "" 64] (by unfold d9;rw[js h1,j4 h2]))⟩
    ·have bad:bz Cx (-8) H E:=Y (by unfold d9;rw[js h1,js h2])
     refine⟨_,rfl,_,_,rfl,rfl,_,rfl,fQ (fun j=>?_) fun j=>aR (fun e d H' s' x1 x2=>bad e d H' s' x1 x2)⟩
     exact⟨_,rfl,rfl,_,rfl,fQ (fun z=>absurd ⟨jv j,V.int.inj (jv z)⟩ h2) fun z=>fun e d H' s' x1 x2=>bad e d H' s' x1 x2⟩
end
end SB
end
section
set_option maxRecDepth 10000
namespace MX
open Vbdeaa (Exp Exps Un Bin Ins Code Text)
open Vbdeam (plain orParts andParts ifParts size sizeAll joinBest argName)
inductive QT (n:Nat):Text→Prop
 | arg {i:Nat}:i<n→QT n (argName i)
 | read {k:Nat} {t:Text}:Vbdeam.readName k=some t→QT n t
 | form {f:Nat}:f<64→QT n (Vbdeam.nameOf 11 f)
inductive S_:Text→Nat→Prop
 | form {f m:Nat}:f<64→m≤8→S_ (Vbdeam.nameOf 11 f) m
 | table {t:Nat}:t<64→S_ (Vbdeam.nameOf 10 t) 1
mutual
noncomputable def Kn(n:Nat):Exp→Prop
 | .num _=>True
 | .name t=>QT n t
 | .un _ a=>Kn n a
 | .bin _ a b=>Kn n a∧Kn n b
 | .and a b=>Kn n a∧Kn n b
 | .or a b=>Kn n a∧Kn n b
 | .cond c a b=>Kn n c∧Kn n a∧Kn n b
 | .best _ l=>Qx n l
 | .use t l=>S_ t l.length∧Qx n l
noncomputable def Qx(n:Nat):Exps→Prop
 | .nil=>True
 | .cons e l=>Kn n e∧Qx n l
end
end MX
end
section
namespace SB
open PySem PySem.Spec PyProof.Rows L2 XL
open Vbdeaa (Text Exp Exps Un Bin Ins)
variable {P:Program} {w:World} {K:PySem.W.Frag} {mg:Str→Option Value} {base:Heap}
noncomputable def Gz(a:Str):Bool:=!(Hx a "a" "" && Txt.isdigit (jM a "a" ""))
theorem xq{a:Str}(h:Gz a=true)(c:Int):¬0≤eY a "a" "" c:=by
 unfold Gz at h
 unfold eY
 cases h1:Hx a "a" "" with
 | false=>rw[js (by simp)];decide
 | true =>
  rw[h1]at h
  rw[j4 rfl]
  cases h2:Txt.isdigit (jM a "a" "")with
  | false=>rw[js (by simp)];decide
  | true=>rw[h2]at h;cases h
theorem Mw:((List.range 9).all fun n=>(List.range n).all fun i=>gk (bD (Vbdeam.argName i))&&decide (eY (bD (Vbdeam.argName i)) "a" "" (n:Nat)=((i:Nat):Int)))=true:=by decide +kernel
noncomputable def yM(k:Nat):Bool:=(Vbdeam.readName k).all fun t=>gk (bD t)&&(Gz (bD t)&&(decide (¬0≤eY (bD t) "g" "" 64)&&decide (j7 (bD t)=((k:Nat):Int))))
theorem Gf:((List.range 960).all yM)=true:=by decide +kernel
theorem Hc:((List.range 64).all fun f=>gk (bD (Vbdeam.nameOf 11 f))&&(Gz (bD (Vbdeam.nameOf 11 f))&&decide (eY (bD (Vbdeam.nameOf 11 f)) "g" "" 64=((f:Nat):Int))))=true:=by decide +kernel
theorem z7:((List.range 64).all fun f=>gk (bD (Vbdeam.nameOf 10 f))&&(decide (¬0≤eY (bD (Vbdeam.nameOf 10 f)) "g" "" 64)&&decide (eY (bD (Vbdeam.nameOf 10 f)) "t" "" 64=((f:Nat):Int))))=true:=by decide +kernel
theorem pF{n i:Nat}(j:n≤8)(hi:i<n):gk (bD (Vbdeam.argName i))=true∧eY (bD (Vbdeam.argName i)) "a" "" (n:Nat)=(i:Int):=by
 have:=j6.mp (j6.mp Mw n (ka.mpr (by omega))) i (ka.mpr hi)
 rw[ia]at this
 exact⟨this.1,jv this.2⟩
theorem pX{k:Nat}{t:Text}(h:Vbdeam.readName k=some t):gk (bD t)=true∧Gz (bD t)=true∧(¬0≤eY (bD t) "g" "" 64)∧j7 (bD t)=(k:Int):=by
 by_cases j:k<960
 ·have:=j6.mp Gf k (ka.mpr j)
  unfold yM at this
  rw[h]at this
  simp only[Option.all_some,ia,jI]at this
  exact this
 ·rw[ji (by omega)]at h
  cases h
theorem lZ{f:Nat}(h:f<64):gk (bD (Vbdeam.nameOf 11 f))=true∧Gz (bD (Vbdeam.nameOf 11 f))=true∧eY (bD (Vbdeam.nameOf 11 f)) "g" "" 64=(f:Int):=by
 have:=j6.mp Hc f (ka.mpr h)
 simp only[ia,jI]at this
 exact this
theorem nO{f:Nat}(h:f<64):gk (bD (Vbdeam.nameOf 10 f))=true∧(¬0≤eY (bD (Vbdeam.nameOf 10 f)) "g" "" 64)∧eY (bD (Vbdeam.nameOf 10 f)) "t" "" 64=(f:Int):=by
 have:=j6.mp z7 f (ka.mpr h)
 simp only[ia,jI]at this
 exact this
theorem tE{α:Type}{p:α→Bool}{l:List α}{x:α}(hx:x∈l)(j:p x=true):∃y,l.find? p=some y∧y∈l∧p y=true:=by
 cases h:l.find? p with
 | none=>exact absurd j (List.find?_eq_none.mp h x hx)
 | some y=>exact⟨y,rfl,List.mem_of_find?_eq_some h,List.find?_some h⟩
theorem tD{α:Type}{p:α→Bool}{l:List α}(h:∀x∈l,p x=true→False):l.find? p=none:=List.find?_eq_none.mpr fun x hx j=>h x hx j
theorem DX{t:Text}{f:Nat}(z:f<64)(h:Vbdeam.nameOf 11 f=t):∃j,Vbdeam.numberIn "g" t=some j∧j<64∧Vbdeam.nameOf 11 j=t:=by
 obtain⟨y,h1,h2,D⟩:=tE (p:=fun i=>Vbdeam.made "g" i==t) (l:=List.range 64) (x:=f) (ka.mpr z) (beq_iff_eq.mpr h)
 exact⟨y,h1,ka.mp h2,beq_iff_eq.mp D⟩
theorem QL{t:Text}{f:Nat}(z:f<64)(h:Vbdeam.nameOf 10 f=t):∃j,Vbdeam.numberIn "t" t=some j∧j<64∧Vbdeam.nameOf 10 j=t:=by
 obtain⟨y,h1,h2,D⟩:=tE (p:=fun i=>Vbdeam.made "t" i==t) (l:=List.range 64) (x:=f) (ka.mpr z) (beq_iff_eq.mpr h)
 exact⟨y,h1,ka.mp h2,beq_iff_eq.mp D⟩
theorem v9{n:Nat}{t:Text}(L:n≤8)(h:MX.QT n t):gk (bD t)=true∧∃i,Vbdeam.codeOf n (.name t)=[i]∧jC (n:Nat) (bD t)=some i.told:=by
 cases h with
 | @arg i hi =>
  refine⟨(pF L hi).1,?_⟩
  obtain⟨j,h1,h2,O⟩:=tE (p:=fun j=>Vbdeam.argName j==Vbdeam.argName i) (l:=List.range n) (x:=i) (ka.mpr hi) (beq_iff_eq.mpr rfl)
  have D:=(pF L (ka.mp h2)).2
  rw[beq_iff_eq.mp O]at D
  refine⟨.arg j,?_,?_⟩
  ·show(match(List.range n).find? (fun j=>Vbdeam.argName j==Vbdeam.argName i)with | some i=>_ | none=>_)=_
   rw[h1]
  ·unfold jC
   rw[D,j4 (by omega)]
   rfl
 | @read k _ F =>
  obtain⟨g1,g2,g3,g4⟩:=pX F
  refine⟨g1,?_⟩
  have h0:(List.range n).find? (fun j=>Vbdeam.argName j==t)=none:=tD fun j D J=>by
   have:=(pF L (ka.mp D)).2
   rw[beq_iff_eq.mp J]at this
   exact xq g2 n (by rw[this];omega)
  have U:k<960:=by
   apply Classical.byContradiction
   intro z
   rw[ji (by omega)]at F
   cases F
  obtain⟨k',h1,h2,O⟩:=tE (p:=fun k=>Vbdeam.readName k==some t) (l:=Vbdeam.READNUMBERS) (x:=k) (by unfold Vbdeam.READNUMBERS;exact List.mem_filter.mpr ⟨ka.mpr U,by rw[F];rfl⟩) (beq_iff_eq.mpr F)
  have S:=(pX (beq_iff_eq.mp O)).2.2.2
  refine⟨.var k',?_,?_⟩
  ·show(match(List.range n).find? (fun j=>Vbdeam.argName j==t)with | some i=>_ | none=>match Vbdeam.READNUMBERS.find? (fun k=>Vbdeam.readName k==some t)with | some k=>_ | none=>_)=_
   rw[h0,h1]
  ·unfold jC
   rw[js (xq g2 n),js g3,S,j4 (by omega)]
   rfl
 | @form f Y =>
  obtain⟨g1,g2,g3⟩:=lZ Y
  refine⟨g1,?_⟩
  have h0:(List.range n).find? (fun j=>Vbdeam.argName j==Vbdeam.nameOf 11 f)=none:=tD fun j D J=>by
   have:=(pF L (ka.mp D)).2
   rw[beq_iff_eq.mp J]at this
   exact xq g2 n (by rw[this];omega)
  have h1:Vbdeam.READNUMBERS.find? (fun k=>Vbdeam.readName k==some (Vbdeam.nameOf 11 f))=none:=tD fun k F J=>by
   have:=(pX (beq_iff_eq.mp J)).2.2.1
   rw[g3]at this
   omega
  obtain⟨Z,e1,e2,e3⟩:=DX Y rfl
  have G:=(lZ e2).2.2
  rw[e3]at G
  refine⟨.call Z 0,?_,?_⟩
  ·show(match(List.range n).find? (fun j=>Vbdeam.argName j==Vbdeam.nameOf 11 f)with | some i=>[Ins.arg i] | none=>match Vbdeam.READNUMBERS.find? (fun k=>Vbdeam.readName k==some (Vbdeam.nameOf 11 f))with | some k=>[Ins.var k] | none=>[Ins.call ((Vbdeam.numberIn "g" (Vbdeam.nameOf 11 f)).getD 0) 0])=_
   rw[h0,h1,e1]
   rfl
  ·unfold jC
   rw[js (xq g2 n),G,j4 (by omega)]
   rfl
theorem qU{n:Nat}{t:Text}{l:Exps}(h:MX.S_ t l.length):gk (bD t)=true∧∃i,Vbdeam.codeOf n (.use t l)=Vbdeam.codesOf n l++[i]∧d9 (l.length:Nat) (bD t)=some i.told:=by
 generalize S:l.length=m at h
 cases h with
 | @form f _ J O =>
  obtain⟨g1,g2,g3⟩:=lZ J
  refine⟨g1,?_⟩
  have h0:Vbdeam.numberIn "t" (Vbdeam.nameOf 11 f)=none:=tD fun j L U=>by
   have:=(nO (ka.mp L)).2.1
   rw[show Vbdeam.nameOf 10 j=Vbdeam.nameOf 11 f from beq_iff_eq.mp U,g3]at this
   omega
  obtain⟨F,e1,e2,e3⟩:=DX J rfl
  have D:=(lZ e2).2.2
  rw[e3]at D
  refine⟨.call F l.length,?_,?_⟩
  ·show Vbdeam.codesOf n l++(match Vbdeam.numberIn "t" (Vbdeam.nameOf 11 f)with | some t=>[Ins.table t] | none=>[Ins.call ((Vbdeam.numberIn "g" (Vbdeam.nameOf 11 f)).getD 0) l.length])=_
   rw[h0,e1]
   rfl
  ·unfold d9
   rw[D,j4 ⟨by omega,by omega⟩,S]
   rfl
 | @table k G =>
  obtain⟨g1,g2,g3⟩:=nO G
  refine⟨g1,?_⟩
  obtain⟨F,e1,e2,e3⟩:=QL G rfl
  have D:=(nO e2).2.2
  rw[e3]at D
  refine⟨.table F,?_,?_⟩
  ·show Vbdeam.codesOf n l++(match Vbdeam.numberIn "t" (Vbdeam.nameOf 10 k)with | some t=>[Ins.table t] | none=>[Ins.call ((Vbdeam.numberIn "g" (Vbdeam.nameOf 10 k)).getD 0) l.length])=_
   rw[e1]
  ·unfold d9
   rw[js (fun z=>g2 z.1),D,j4 ⟨by omega,rfl⟩]
   rfl
end SB
end
section
namespace SB
open PySem PySem.Spec PyProof.Rows L2 XL
open Vbdeaa (Text Exp Exps Un Bin Ins)
open TL (tl)
open PySem.NumText (AllDigits digitsVal)
variable {P:Program} {w:World} {K:PySem.W.Frag} {mg:Str→Option Value} {base:Heap}
noncomputable def Hw(t:Text):Prop:=t.length≤24∧∀c∈t,(48≤c∧c≤57)∨(65≤c∧c≤90)∨c=95∨(97≤c∧c≤122)∨c=46
theorem Ck:((List.range 128).all fun c=>Unicode.isDigit c==decide (48≤c∧c≤57))=true:=by decide +kernel
theorem Ho{c:Nat}(h:c<128)(hd:Unicode.isDigit c=true):48≤c∧c≤57:=by
 have:=j6.mp Ck c (ka.mpr h)
 rw[beq_iff_eq,hd]at this
 exact jv this.symm
theorem i_(t:Text):tl (bD t)=t.map Int.toNat:=by unfold bD;exact TL.Tv _
theorem Qs{t:Text}(h:Hw t):∀c∈tl (bD t),c<128:=by
 intro c j
 rw[i_]at j
 obtain⟨d,hd,rfl⟩:=List.mem_map.mp j
 have:=h.2 d hd
 omega
theorem ie(a:Str):(tl a).length=a.length:=Array.length_toList
theorem Qm(z:Str)(i j:Nat)(hi:i≤z.length)(D:j≤z.length):tl (Hi z (some (i:Int)) (some (j:Int)))=((tl z).drop i).take (j-i):=by
 unfold Hi
 rw[HT.oK,HT.oK,Nat.min_eq_left hi,Nat.min_eq_left D]
theorem HQ{a h t:Str}(h1:h.length≤a.length)(h2:t.length≤a.length):tl (jM a h t)=((tl a).drop h.length).take (a.length-t.length-h.length):=by
 unfold jM
 rw[show(((a.length:Nat):Int)-(t.length:Nat))=((a.length-t.length:Nat):Int) by omega,Qm a _ _ h1 (by omega)]
theorem yl{a h t:Str}(D:Hx a h t=true)(hd:Txt.isdigit (jM a h t)=true):tl a=tl h++tl (jM a h t)++tl t:=by
 unfold Hx Txt.startswith Txt.endswith at D
 simp only[ia,jI,Nat.zero_add,PySem.StrLaws.subAt_eq,beq_iff_eq]at D
 obtain⟨⟨G,O⟩,F,J⟩:=D
 rw[HQ G F]
 have j:=ie a
 unfold Txt.isdigit at hd
 rw[ia,jI,←ie,HQ G F,ij,kg]at hd
 have L:h.length<a.length-t.length:=by omega
 have e1:tl h=(tl a).take h.length:=by
  show h.cps.toList=a.cps.toList.take _
  rw[←O];rfl
 have e2:tl t=(tl a).drop (a.length-t.length):=by
  show t.cps.toList=a.cps.toList.drop _
  rw[←J]
  have z:a.cps.toList.length=a.length:=j
  exact List.take_of_length_le (l:=a.cps.toList.drop (a.length-t.length)) (i:=t.length) (by rw[kg];omega)
 rw[e1,e2]
 have e3:((tl a).drop h.length).take (a.length-t.length-h.length)++(tl a).drop (a.length-t.length)=(tl a).drop h.length:=by
  rw[show(tl a).drop (a.length-t.length)=((tl a).drop h.length).drop (a.length-t.length-h.length) by rw[List.drop_drop];congr 1;omega]
  exact List.take_append_drop _ _
 rw[im,e3,List.take_append_drop]
theorem Tr{a h t:Str}{c:Int}(j:0≤eY a h t c):tl a=tl h++tl (u9 (eY a h t c))++tl t∧eY a h t c<c:=by
 unfold eY at j ⊢
 cases h1:Hx a h t with
 | false=>rw[h1]at j;exact absurd (show(0:Int)≤-1 from j) (by decide)
 | true =>
  rw[h1]at j
  rw[j4 rfl]at j ⊢
  cases h2:Txt.isdigit (jM a h t)with
  | false=>rw[h2]at j;exact absurd (show(0:Int)≤-1 from j) (by decide)
  | true =>
   rw[h2]at j
   rw[j4 rfl]at j ⊢
   cases D:PySem.intText? (jM a h t)with
   | none=>rw[D]at j;exact absurd (show(0:Int)≤-1 from j) (by decide)
   | some m =>
    rw[D]at j
    simp only at j ⊢
    by_cases z:u9 m=jM a h t
    ·rw[j4 z]at j ⊢
     by_cases F:c≤m
     ·rw[j4 F]at j;exact absurd j (by decide)
     ·rw[js F]at j ⊢
      rw[z]
      exact⟨yl h1 h2,by omega⟩
    ·rw[js z]at j;exact absurd j (by decide)
theorem o9:∀(j:List Nat)(m:Nat),(∀c∈j,48≤c∧c≤57)→j.foldl (fun acc c=>acc*10+(c-48)) m<(m+1)*10 ^ j.length
 | [],m,_=>by simp
 | c::r,m,h=>by
  have h1:=h c b'
  have:=o9 r (m*10+(c-48)) fun d hd=>h d (am _ hd)
  rw[List.foldl_cons,cr,Nat.pow_succ]
  refine ic this ?_
  rw[Nat.mul_comm (10 ^ r.length) 10,←Nat.mul_assoc]
  exact Nat.mul_le_mul_right _ (by omega)
theorem rR{t:Text}{h u:Str}(F:Hw t)(J:h.length≤100)(L:u.length≤100):Nf (bD t) h u=true:=by
 have S:(bD t).length=t.length:=by rw[←ie,i_,ap]
 have:=F.1
 unfold Nf
 rw[i9 (show(bD t).length≤100 by omega),i9 J,i9 L,Bool.true_and,Bool.true_and,Bool.true_and]
 cases h1:Hx (bD t) h u with
 | false=>rfl
 | true =>
  cases h2:Txt.isdigit (jM (bD t) h u)with
  | false=>rfl
  | true =>
   have O:=yl h1 h2
   have low:∀c∈tl (jM (bD t) h u),c<128:=fun c j=>Qs F c (by rw[O];simp[j])
   unfold Txt.isdigit at h2
   rw[ia,jI]at h2
   have G:AllDigits (jM (bD t) h u).cps.toList:=fun c j=>Ho (low c j) (by
    have:=Array.all_eq_true'.mp h2.2 c (by simpa using j)
    exact this)
   have ne:(jM (bD t) h u).cps.toList≠[]:=fun z=>by
    have:=ie (jM (bD t) h u)
    have e:tl (jM (bD t) h u)=[]:=z
    rw[e]at this
    simp at this
    omega
   have D:(jM (bD t) h u).length≤24:=iq (kW _ _ _) (by omega)
   rw[intText_digits G ne (by omega)]
   simp only[Bool.and_true,Bool.not_true,Bool.false_or,jI]
   have:=o9 (jM (bD t) h u).cps.toList 0 G
   have e:digitsVal (jM (bD t) h u).cps.toList=(jM (bD t) h u).cps.toList.foldl (fun acc c=>acc*10+(c-48)) 0:=rfl
   rw[Int.natAbs_natCast,e]
   refine ic this ?_
   have e2:(jM (bD t) h u).cps.toList.length=(jM (bD t) h u).length:=ie _
   rw[e2,Nat.zero_add,Nat.one_mul]
   refine iq (Nat.pow_le_pow_right (by decide) D) ?_
   exact iq (show 10 ^ 24≤2 ^ 80 by decide) (Nat.pow_le_pow_right (by decide) (by decide))
theorem vJ{t:Text}(j:Hw t):gk (bD t)=true:=by
 unfold gk R8
 rw[rR j (by decide) (by decide),rR j (by decide) (by decide),rR j (by decide) (by decide),Bool.true_and,Bool.true_and,Bool.true_and,j6]
 intro r z
 have D:ROWS.all (fun r=>decide (r.1.length≤100)&&decide (r.2.1.length≤100))=true:=by decide +kernel
 have:=j6.mp D r z
 rw[ia,jI,jI]at this
 exact rR j this.1 this.2
noncomputable def Dh(a:Str):Text:=(tl a).map fun(c:Nat)=>(c:Int)
theorem Iz{t:Text}(h:∀c∈t,0≤c):Dh (bD t)=t:=by
 unfold Dh
 rw[i_,List.map_map]
 induction t with
 | nil=>rfl
 | cons c r j =>
  rw[i6,j fun d hd=>h d (am _ hd)]
  congr 1
  exact Int.toNat_of_nonneg (h c b')
end SB
end
section
namespace SB
open PySem PySem.Spec PyProof.Rows L2 XL
open Vbdeaa (Text Exp Exps Un Bin Ins)
open TL (tl)
variable {P:Program} {w:World} {K:PySem.W.Frag} {mg:Str→Option Value} {base:Heap}
theorem Nv(i:Nat):Dh (u9 (i:Int))=Vbdeaa.decimal i:=by
 unfold Dh u9 Vbdeaa.decimal
 rw[m8]
 rfl
theorem Mu{t:Text}(h:Hw t):∀c∈t,0≤c:=fun c j=>by have:=h.2 c j;omega
theorem yD{t:Text}{h u:Str}{c:Int}(D:Hw t)(z:0≤eY (bD t) h u c):∃m:Nat,eY (bD t) h u c=(m:Nat)∧(m:Int)<c∧t=Dh h++Vbdeaa.decimal m++Dh u:=by
 obtain⟨m,j⟩:=Int.eq_ofNat_of_zero_le z
 obtain⟨h1,h2⟩:=Tr z
 rw[j]at h1 h2
 refine⟨m,j,h2,?_⟩
 have:=Iz (Mu D)
 rw[←this,←Nv]
 unfold Dh
 rw[h1,kb,kb]
theorem Ge:(ROWS.all fun r=>(List.range r.2.2.2.toNat).all fun m=>Vbdeam.readName (r.2.2.1.toNat+m)==some (Dh r.1++Vbdeaa.decimal m++Dh r.2.1))=true:=by decide +kernel
theorem Cy:(ALONE.all fun p=>Vbdeam.readName p.2.toNat==some (Dh p.1))=true:=by decide +kernel
theorem K9{t:Text}(z:Hw t)(h:0≤j7 (bD t)):∃k,Vbdeam.readName k=some t:=by
 unfold j7 at h
 cases h1:ALONE.find? (fun p=>decide (p.1=bD t))with
 | some p =>
  have j:=List.mem_of_find?_eq_some h1
  have F:p.1=bD t:=jv (List.find?_some (p:=fun p:Str×Int=>decide (p.1=bD t)) h1)
  have:=j6.mp Cy p j
  rw[beq_iff_eq,F,Iz (Mu z)]at this
  exact⟨_,this⟩
 | none =>
  rw[h1]at h
  cases h2:ROWS.find? (Ds (bD t))with
  | none=>rw[h2]at h;exact absurd (show(0:Int)≤-1 from h) (by decide)
  | some r =>
   have j:=List.mem_of_find?_eq_some h2
   have D:0≤eY (bD t) r.1 r.2.1 r.2.2.2:=jv (List.find?_some (p:=Ds (bD t)) h2)
   obtain⟨m,_,e2,e3⟩:=yD z D
   have:=j6.mp (j6.mp Ge r j) m (ka.mpr (by omega))
   rw[beq_iff_eq,←e3]at this
   exact⟨_,this⟩
theorem sZ(s:String)(i:Nat):Vbdeam.made s i=Dh (Str.ofString s)++Vbdeaa.decimal i++Dh "":=by
 unfold Vbdeam.made Dh
 rw[m8]
 show _=_++[]
 rw[i8]
theorem Cj{n:Nat}{t:Text}(j:Hw t){row:List Int}(h:jC (n:Nat) (bD t)=some row):MX.QT n t:=by
 unfold jC at h
 by_cases h1:0≤eY (bD t) "a" "" (n:Nat)
 ·obtain⟨m,_,e2,e3⟩:=yD j h1
  have:t=Vbdeam.argName m:=by rw[e3];exact(sZ "a" m).symm
  rw[this]
  exact .arg (by omega)
 ·rw[js h1]at h
  by_cases h2:0≤eY (bD t) "g" "" 64
  ·obtain⟨m,_,e2,e3⟩:=yD j h2
   have:t=Vbdeam.nameOf 11 m:=by rw[e3];exact(sZ "g" m).symm
   rw[this]
   exact .form (by omega)
  ·rw[js h2]at h
   by_cases z:0≤j7 (bD t)
   ·obtain⟨k,D⟩:=K9 j z
    exact .read D
   ·rw[js z]at h
    cases h
theorem xR{m:Nat}{t:Text}(j:Hw t){row:List Int}(h:d9 (m:Nat) (bD t)=some row):MX.S_ t m:=by
 unfold d9 at h
 by_cases h1:0≤eY (bD t) "g" "" 64∧(m:Int)≤8
 ·obtain⟨i,_,e2,e3⟩:=yD j h1.1
  have:t=Vbdeam.nameOf 11 i:=by rw[e3];exact(sZ "g" i).symm
  rw[this]
  exact .form (by omega) (by omega)
 ·rw[js h1]at h
  by_cases h2:0≤eY (bD t) "t" "" 64∧(m:Int)=1
  ·obtain⟨i,_,e2,e3⟩:=yD j h2.1
   have:t=Vbdeam.nameOf 10 i:=by rw[e3];exact(sZ "t" i).symm
   have z:m=1:=by omega
   rw[this,z]
   exact .table (by omega)
  ·rw[js h2]at h
   cases h
theorem Pr{n:Nat}{t:Text}:MX.QT n t↔Vbdeam.known n (.name t)=true:=by
 unfold Vbdeam.known
 rw[Bool.or_eq_true,Bool.or_eq_true,List.any_eq_true,List.any_eq_true]
 constructor
 ·rintro(⟨hi⟩ | ⟨j⟩ | ⟨D⟩)
  ·exact .inl ⟨_,ka.mpr ‹_›,beq_iff_eq.mpr rfl⟩
  ·rename_i k
   refine .inr (.inl ⟨k,List.mem_filter.mpr ⟨ka.mpr ?_,by rw[j];rfl⟩,beq_iff_eq.mpr j⟩)
   apply Classical.byContradiction
   intro z
   rw[ji (by omega)]at j
   cases j
  ·rename_i f
   obtain⟨F,e1,_⟩:=DX ‹f<64› rfl
   exact .inr (.inr (by rw[e1];rfl))
 ·rintro(⟨i,hi,h⟩ | ⟨k,j,h⟩ | h)
  ·rw[←beq_iff_eq.mp h]
   exact .arg (ka.mp hi)
  ·exact .read (beq_iff_eq.mp h)
  ·obtain⟨f,D⟩:=Option.isSome_iff_exists.mp h
   have h1:=ka.mp (List.mem_of_find?_eq_some D)
   have h2:Vbdeam.made "g" f=t:=beq_iff_eq.mp (List.find?_some (p:=fun i=>Vbdeam.made "g" i==t) D)
   rw[←h2]
   exact .form h1
theorem Pq{t:Text}{m:Nat}:MX.S_ t m↔(((Vbdeam.numberIn "t" t).isSome&&m==1)||((Vbdeam.numberIn "g" t).isSome&&decide (m≤8)))=true:=by
 rw[Bool.or_eq_true,ia,ia,beq_iff_eq,jI]
 constructor
 ·intro h
  cases h with
  | @form f _ j z =>
   obtain⟨F,e1,_⟩:=DX j rfl
   exact .inr ⟨by rw[e1];rfl,z⟩
  | @table k D =>
   obtain⟨F,e1,_⟩:=QL D rfl
   exact .inl ⟨by rw[e1];rfl,rfl⟩
 ·rintro(⟨h,z⟩ | ⟨h,z⟩)
  ·obtain⟨f,j⟩:=Option.isSome_iff_exists.mp h
   have h1:=ka.mp (List.mem_of_find?_eq_some j)
   have h2:Vbdeam.made "t" f=t:=beq_iff_eq.mp (List.find?_some (p:=fun i=>Vbdeam.made "t" i==t) j)
   rw[←h2,z]
   exact .table h1
  ·obtain⟨f,j⟩:=Option.isSome_iff_exists.mp h
   have h1:=ka.mp (List.mem_of_find?_eq_some j)
   have h2:Vbdeam.made "g" f=t:=beq_iff_eq.mp (List.find?_some (p:=fun i=>Vbdeam.made "g" i==t) j)
   rw[←h2]
   exact .form h1 z
mutual
theorem eX(n:Nat):∀e:Exp,MX.Kn n e↔Vbdeam.known n e=true
 | .num q=>by unfold Vbdeam.known MX.Kn;simp
 | .name t=>Pr
 | .un o a=>eX n a
 | .bin o a b=>by unfold Vbdeam.known MX.Kn;rw[ia,eX n a,eX n b]
 | .and a b=>by unfold Vbdeam.known MX.Kn;rw[ia,eX n a,eX n b]
 | .or a b=>by unfold Vbdeam.known MX.Kn;rw[ia,eX n a,eX n b]
 | .cond c a b=>by unfold Vbdeam.known MX.Kn;rw[ia,ia,eX n c,eX n a,eX n b]
 | .best g l=>xu n l
 | .use t l=>by unfold Vbdeam.known MX.Kn;rw[ia,←Pq,xu n l]
theorem xu(n:Nat):∀l:Exps,MX.Qx n l↔Vbdeam.knownAll n l=true
 | .nil=>by unfold Vbdeam.knownAll MX.Qx;simp
 | .cons e l=>by unfold Vbdeam.knownAll MX.Qx;rw[ia,eX n e,xu n l]
end
noncomputable def TopK(n:Nat):Exp→Prop
 | .name t=>MX.QT n t
 | .use t l=>MX.S_ t l.length
 | _=>True
noncomputable def Qv:Exp→Prop
 | .name t=>Hw t
 | .use t _=>Hw t
 | _=>True
theorem BR(n:Nat):∀l:Exps,MX.Qx n l↔∀e∈tH l,MX.Kn n e
 | .nil=>by simp[MX.Qx,tH]
 | .cons e l=>by
  show MX.Kn n e∧MX.Qx n l↔∀x∈e::tH l,MX.Kn n x
  rw[BR n l,List.forall_mem_cons]
theorem xr(n:Nat)(e:Exp):MX.Kn n e↔TopK n e∧∀x∈kids e,MX.Kn n x:=by
 cases e with
 | num q=>simp[MX.Kn,TopK,kids]
 | name t=>simp[MX.Kn,TopK,kids]
 | un o a=>simp[MX.Kn,TopK,kids]
 | bin o a b=>simp[MX.Kn,TopK,kids]
 | and a b=>simp[MX.Kn,TopK,kids]
 | or a b=>simp[MX.Kn,TopK,kids]
 | cond c a b=>simp[MX.Kn,TopK,kids]
 | best g l=>simp[MX.Kn,TopK,kids,BR]
 | use t l=>simp[MX.Kn,TopK,kids,BR]
inductive gM:Exp→Prop
 | mk {e:Exp}:Qv e→(∀x∈kids e,gM x)→gM e
theorem gM.top{e:Exp}(h:gM e):Qv e:=by cases h;assumption
theorem gM.kid{e x:Exp}(h:gM e)(hx:x∈kids e):gM x:=by
 cases h with
 | mk _ h2=>exact h2 x hx
end SB
end
section
namespace SB
open PySem PySem.Spec PyProof.Rows L2 XL
open Vbdeaa (Text Exp Exps Un Bin Ins)
variable {P:Program} {w:World} {K:PySem.W.Frag} {mg:Str→Option Value} {base:Heap}
noncomputable def zb(n:Nat):Exp→Vbdeaa.Code
 | .num q=>[.push q]
 | .name t=>Vbdeam.codeOf n (.name t)
 | .un o _=>[.un o]
 | .bin o _ _=>[.bin o]
 | .best g l=>List.replicate ((tH l).length-1) (.best g)
 | .use t l=>(Vbdeam.codeOf n (.use t l)).drop (Vbdeam.codesOf n l).length
 | _=>[]
noncomputable def Rv:Exp→Prop
 | .and _ _=>False
 | .or _ _=>False
 | .cond _ _ _=>False
 | _=>True
noncomputable def MK(H:Hp)(Q:VK)(c:Vbdeaa.Code):Prop:=∀l ts H',H l=none→aA H H'→H' l=some (.lst (ts.map V.ref))→dh H' c ts→l∉ts→Q (.ref l) H'
noncomputable def Af(C Cx:Addr):Sp:=fun vs H Q E=>∃(a:Addr)(e:Exp)(n:Nat),vs=[.ref a,.int n]∧n≤8∧cF C H e a∧Qv e∧Rv e∧(kids e).length≤100000∧(TopK n e→MK H Q (zb n e))∧(¬TopK n e→bz Cx (-8) H E)
noncomputable abbrev yI:Stmt:=top 45
theorem xJ(l:Exps):(tH l).length=l.length:=by
 match l with
 | .nil=>rfl
 | .cons e r=>show(tH r).length+1=r.length+1;rw[xJ r]
theorem j9{H:Hp}{Q:VK}{i:Ins}{row:List Int}(h:MK H Q [i])(hi:i.told=row){H1:Hp}{t:Addr}(F:H t=none)(s1:aA H H1)(h1:H1 t=some (.tup (vI row))):∀l,H1 l=none→Q (.ref l) (L2.upd H1 l (.lst [.ref t])):=fun l D=>by
 have j:t≠l:=fun z=>by rw[z,D]at h1;cases h1
 refine h l [t] _ (same_none s1 D) (s1.trans (aA.upd D)) ak ?_ (by simpa using fun z=>j z.symm)
 refine .cons ?_ .nil
 rw[az j,h1,hi]
theorem U4(x:V)(xs:List V):nW (x::xs) (some 1) none=xs:=by
 have h1:HT.gj (x::xs).length 0 (some 1)=1:=by
  have:=HT.oK (x::xs).length 0 1
  simp at this
  simpa using this
 have h2:HT.gj (x::xs).length (x::xs).length none=(x::xs).length:=HT.JT _ _
 unfold nW
 rw[h1,h2]
 simp
theorem zA(xs:List V):nW xs (some 1) none=xs.tail:=by
 cases xs with
 | nil=>rfl
 | cons x xs=>exact U4 x xs
section
theorem Av:aK ["node","n","part"] ["node","n"] (aD yI):=⟨rfl,rfl,rfl,by decide +kernel,rfl,by decide +kernel,by decide +kernel⟩
theorem Ow{f C fB fC Cx:Addr}{fd dB dC:FuncData}(F:Fn K mg "last_instructions" yI f fd ["node","n"])(N:v_ K C)(T:CP K mg)(TC:CN K mg)(FB:Fn K mg "bare_name_instruction" yL fB dB ["name","n"])(GB:aF P w K mg base (aW P w) 4 fB dB ["name","n"] (Am Cx))
  (FC:Fn K mg "called_name_instruction" oN fC dC ["name","count"]) (ar:aF P w K mg base (aW P w) 4 fC dC ["name","count"] (uc Cx)):aF P w K mg base (aW P w) 5 f fd ["node","n"] (Af C Cx):=by
 refine dZ F.F Av (fun vs H Q E h=>?_) (fun cdv A outer s H vs Q E hr h=>?_)
 ·obtain⟨_,_,_,rfl,_⟩:=h
  rfl
 ·obtain⟨a,e,n,rfl,ag,hn,Z,ac,aE,k,kr⟩:=h
  obtain⟨dx,D,l,as,h1,hD,hl,hp⟩:=oX hn
  refine⟨_,aq (aX (aG cz (aJ (pv 0) rfl) (bu rfl T.NUMBER) (aL _)) (ao (aV (bT (aj (bJ (aj aB (aj (b7 cY (aJ (pv 0) rfl) aB (fun _ _=>rfl)) (aj (b7 cY (aJ (pv 0) rfl) aB (fun _ _=>rfl)) au)))) au)))) aP)
   (aq (aX (aG cz (aJ (pv 0) rfl) (bu rfl T.NAME) (aL _)) (ao (aV (bT (aj (a_ GB hr rfl FB.m FB.F.kp FB.b .nil passes (aj (aJ (pv 0) rfl) (aj (pv 1) au))) au)))) aP)
   (aq (aX (aG cz (aJ (pv 0) rfl) (bu rfl TC.ONE) (aL _)) (ao (aV (bT (aj (bJ (aj aB (aj (aJ (pv 0) rfl) au))) au)))) aP)
   (aq (aX (aG cz (aJ (pv 0) rfl) (bu rfl TC.TWO) (aL _)) (ao (aV (bT (aj (bJ (aj aB (aj (aJ (pv 0) rfl) au))) au)))) aP)
   (aq (aX (aG cz (aJ (pv 0) rfl) (bu rfl T.PICK) (aL _)) (ao (aV (yO (own:=[("part",2)]) (te:=Ij (aZ (tC (.int 10)) (aZ (z8 K (pP 0) "detail") cZ))) rfl Av.nd (jj (jZ rY (aJ (pv 0) rfl) (gU aB) Dv)) (iY (by kernel_rfl))
     (fun _ _ _ _ _=>by exact cX (i:=2) Av.nd rfl (Or.inl rfl)) (fun _ _ _ _ _=>by exact lJ) (fun _ _ _ _ _=>by exact bJ (aj aB (aj (aJ (pv 0) rfl) au)))))) aP)
   (ao (aV (bT (aj (a_ ar hr rfl FC.m FC.F.kp FC.b .nil passes (aj (aJ (pv 0) rfl) (aj (bW bG (by rfl) T.len (by decide +kernel) (aj (aJ (pv 0) rfl) au)) au))) au)))))))),?_⟩
  refine⟨_,rfl,a,C,dx,_,_,rfl,h1,N.cl,N.nF,rfl,rfl,_,rfl,?_⟩
  cases e with
  | num q =>
   obtain⟨t,rfl,ht⟩:=hD
   refine bh ⟨_,rfl,a,C,dx,_,_,rfl,h1,N.cl,N.nD,rfl,t,_,_,_,rfl,rfl,cR.of ht,at_of (j:=0) rfl rfl,_,rfl,a,C,dx,_,_,rfl,h1,N.cl,N.nD,rfl,t,_,_,_,rfl,rfl,cR.of ht,at_of (j:=1) rfl rfl,(by show 3≤sizeLine;decide),fun p G=>⟨(by show 1≤sizeLine;decide),?_⟩⟩
   exact j9 (i:=.push q) (row:=[0,q.1,(q.2:Nat)]) (k trivial) rfl G (aA.upd G) ak
  | name t =>
   obtain rfl:D=.str (bD t):=hD
   have hg:=vJ Z
   refine aR ⟨_,rfl,a,C,dx,_,_,rfl,h1,N.cl,N.nF,rfl,rfl,_,rfl,bh ⟨_,rfl,a,C,dx,_,_,rfl,h1,N.cl,N.nD,rfl,_,rfl,bD t,n,rfl,hg,fun row J t2 H1 aa s1 ae=>⟨(by show 1≤sizeLine;decide),?_⟩,fun z=>?_⟩⟩
   ·have O:=Cj Z J
    obtain⟨_,i,hc,hb⟩:=v9 ag O
    have k:MK H Q [i]:=by rw[←hc];exact k O
    rw[hb]at J
    exact j9 (i:=i) (row:=row) k (Option.some.inj J) aa s1 ae
   ·exact kr fun O=>by
     obtain⟨_,i,hc,hb⟩:=v9 ag O
     rw[hb]at z
     cases z
  | un o b =>
   obtain rfl:D=.int (wu o):=hD
   refine aR ⟨_,rfl,a,C,dx,_,_,rfl,h1,N.cl,N.nF,rfl,rfl,_,rfl,aR ⟨_,rfl,a,C,dx,_,_,rfl,h1,N.cl,N.nF,rfl,rfl,_,rfl,bh ⟨_,rfl,a,C,dx,_,_,rfl,h1,N.cl,N.nD,rfl,(by show 2≤sizeLine;decide),fun p G=>⟨(by show 1≤sizeLine;decide),?_⟩⟩⟩⟩
   exact j9 (i:=.un o) (row:=[3,(wu o:Nat)]) (k trivial) (by cases o<;>rfl) G (aA.upd G) ak
  | bin o b c =>
   obtain rfl:D=.int (qX o):=hD
   refine aR ⟨_,rfl,a,C,dx,_,_,rfl,h1,N.cl,N.nF,rfl,rfl,_,rfl,aR ⟨_,rfl,a,C,dx,_,_,rfl,h1,N.cl,N.nF,rfl,rfl,_,rfl,aR ⟨_,rfl,a,C,dx,_,_,rfl,h1,N.cl,N.nF,rfl,rfl,_,rfl,bh ⟨_,rfl,a,C,dx,_,_,rfl,h1,N.cl,N.nD,rfl,(by show 2≤sizeLine;decide),fun p G=>⟨(by show 1≤sizeLine;decide),?_⟩⟩⟩⟩⟩
   exact j9 (i:=.bin o) (row:=[4,(qX o:Nat)]) (k trivial) (by cases o<;>rfl) G (aA.upd G) ak
  | and b c=>exact ac.elim
  | or b c=>exact ac.elim
  | cond b c d=>exact ac.elim
  | best g es =>
   obtain rfl:D=.int (if g=true then 1 else 0):=hD
   refine aR ⟨_,rfl,a,C,dx,_,_,rfl,h1,N.cl,N.nF,rfl,rfl,_,rfl,aR ⟨_,rfl,a,C,dx,_,_,rfl,h1,N.cl,N.nF,rfl,rfl,_,rfl,aR ⟨_,rfl,a,C,dx,_,_,rfl,h1,N.cl,N.nF,rfl,rfl,_,rfl,aR ⟨_,rfl,a,C,dx,_,_,rfl,h1,N.cl,N.nF,rfl,rfl,_,rfl,bh ?_⟩⟩⟩⟩
   have sp:∀p (G:H p=none),aA H (L2.upd H p (.lst (nW (as.map V.ref) (some 1) none))):=fun p G=>aA.upd G
   refine⟨_,rfl,a,C,dx,_,_,rfl,h1,N.cl,N.nP,rfl,1,rfl,l,_,rfl,bZ.of hl,fun p G=>⟨p,rfl,⟨_,bZ.of ak⟩,fun L hL=>?_⟩⟩
   have s0:=sp p G
   refine lV (K:=K) (a:=p) (xs:=nW (as.map V.ref) (some 1) none) (fun i H'=>aA (L2.upd H p (.lst (nW (as.map V.ref) (some 1) none))) H'∧∃ts:List Addr,H' L=some (.lst (ts.map V.ref))∧dh H' (List.replicate i (.best g)) ts∧L∉ts) ⟨aA.upd hL,[],ak,.nil,by simp⟩ (fun i H' _ ⟨s1,_⟩=>bZ.of (s1 _ _ ak)) ?_ ?_
   ·rintro i y H' hi ⟨s1,ts,S,U,Y⟩
    have ax:=s1 _ _ (s0 _ _ h1)
    have av:ts.length=i:=by rw[←Paired.length U];simp[jU]
    have ay:i<100000:=by
     have:=(hZ.mp hi).1
     rw[zA,List.length_tail,ap,←Paired.length hp]at this
     omega
    refine⟨rfl,_,rfl,a,C,dx,_,_,rfl,ax,N.cl,N.nD,rfl,(by show 2≤sizeLine;decide),fun t ht=>?_⟩
    have af:L≠t:=fun z=>by rw[z,ht]at S;cases S
    refine⟨_,by rw[az af];exact S,by rw[ap,av];exact ic ay (by decide),fun b o q=>?_,ts++[t],by rw[ak,kb];rfl,?_,?_⟩
    ·have ai:b≠L:=fun z=>by rw[z,hL]at q;cases q
     have aC:b≠t:=fun z=>by rw[←z,s1 _ _ q]at ht;cases ht
     rw[az ai,az aC]
     exact s1 _ _ q
    ·rw[List.replicate_succ']
     unfold dh jU
     rw[kb]
     refine cu (cP U fun row x hx q=>?_) ?_
     ·have aw:x≠L:=fun z=>by rw[z,S]at q;cases q
      have al:x≠t:=fun z=>by rw[z,ht]at q;cases q
      rw[az aw,az al]
      exact q
     ·rw[az (Ne.symm af),ak]
      cases g<;>rfl
    ·rw[List.mem_append,List.mem_singleton]
     exact fun z=>z.elim Y af
   ·rintro H' ⟨s1,ts,S,U,Y⟩
    refine k trivial L ts H' (same_none s0 hL) (s0.trans s1) S ?_ Y
    have:(nW (as.map V.ref) (some 1) none).length=(tH es).length-1:=by
     rw[zA,List.length_tail,ap,←Paired.length hp]
     rfl
    rw[this]at U
    exact U
  | use t es =>
   obtain rfl:D=.str (bD t):=hD
   have hg:=vJ Z
   refine aR ⟨_,rfl,a,C,dx,_,_,rfl,h1,N.cl,N.nF,rfl,rfl,_,rfl,aR ⟨_,rfl,a,C,dx,_,_,rfl,h1,N.cl,N.nF,rfl,rfl,_,rfl,aR ⟨_,rfl,a,C,dx,_,_,rfl,h1,N.cl,N.nF,rfl,rfl,_,rfl,aR ⟨_,rfl,a,C,dx,_,_,rfl,h1,N.cl,N.nF,rfl,rfl,_,rfl,aR ?_⟩⟩⟩⟩
   refine⟨_,rfl,a,C,dx,_,_,rfl,h1,N.cl,N.nD,rfl,_,rfl,a,C,dx,_,_,rfl,h1,N.cl,N.nP,rfl,l,_,rfl,.inl (bZ.of hl),bD t,(as.map V.ref).length,rfl,hg,fun row J t2 H1 aa s1 ae=>⟨(by show 1≤sizeLine;decide),?_⟩,fun z=>?_⟩
   all_goals have ah:((as.map V.ref).length:Nat)=es.length:=by rw[ap,←Paired.length hp];exact xJ es
   ·rw[ah]at J
    have O:=xR Z J
    obtain⟨_,i,hc,hb⟩:=qU (n:=n) (l:=es) O
    have k:MK H Q [i]:=by
     have e1:zb n (.use t es)=[i]:=by
      show(Vbdeam.codeOf n (.use t es)).drop (Vbdeam.codesOf n es).length=_
      rw[hc,List.drop_left]
     rw[←e1];exact k O
    rw[hb]at J
    exact j9 (i:=i) (row:=row) k (Option.some.inj J) aa s1 ae
   ·rw[ah]at z
    exact kr fun O=>by
     obtain⟨_,i,hc,hb⟩:=qU (n:=n) (l:=es) O
     rw[hb]at z
     cases z
end
noncomputable def Bh(n:Nat)(sz:List Nat):Exp→List Vbdeaa.Code
 | .and _ _=>[[],[.zero (sz.getD 1 0+2)],[.truth,.jump 1,.push (0,1)]]
 | .or _ _=>[[],[.zero 2,.push (1,1),.jump (sz.getD 1 0+1)],[.truth]]
 | .cond _ _ _=>[[],[.zero (sz.getD 1 0+1)],[.jump (sz.getD 2 0)],[]]
 | e=>List.replicate (kids e).length []++[zb n e]
noncomputable def dz(H:Hp)(c:Vbdeaa.Code)(x:Addr):Prop:=∃ts:List Addr,H x=some (.lst (ts.map V.ref))∧dh H c ts
theorem dz.same{H H':Hp}{c:Vbdeaa.Code}{x:Addr}(s:aA H H')(h:dz H c x):dz H' c x:=by
 obtain⟨ts,h1,h2⟩:=h
 exact⟨ts,s _ _ h1,h2.same s⟩
noncomputable def U_(H:Hp)(j:List Vbdeaa.Code)(l:Addr):Prop:=∃ls:List Addr,H l=some (.lst (ls.map V.ref))∧Paired (dz H) j ls
noncomputable def Jc(C Cx:Addr):Sp:=fun vs H Q E=>∃(a sl:Addr)(e:Exp)(sz:List Nat)(n:Nat),vs=[.ref a,.ref sl,.int n]∧n≤8∧cF C H e a∧Qv e∧H sl=some (.lst (sz.map fun(x:Nat)=>V.int x))∧sz.length=(kids e).length∧(kids e).length≤100000 ∧
 (TopK n e→∀l H',H l=none→aA H H'→U_ H' (Bh n sz e) l→Q (.ref l) H')∧(¬TopK n e→bz Cx (-8) H E)
noncomputable abbrev JN:Stmt:=top 44
theorem Bg{X:Cx}{es r:List Expr}{p:Pos}{te:TE}{t:TA}(z:PE X (.List es p) te)(j:PA X r t):PA X (.List es p::r) (aZ te t):=aj z j rfl
theorem Oe{X:Cx}{es r:List Expr}{x:Nat}{p:Pos}{te:TE}{t:TA}(z:PE X (.Tuple es x p) te)(j:PA X r t):PA X (.Tuple es x p::r) (aZ te t):=aj z j rfl
theorem yQ{X:Cx}{i:Int}{m:Nat}{r:List Expr}{p:Pos}{t:TA}(j:PA X r t):PA X (.Constant (.int i) m p::r) (aZ (tC (.int i)) t):=aj aB j rfl
theorem V1{X:Cx}{a b:Expr}{o:Operator}{r:List Expr}{p:Pos}{te:TE}{t:TA}(z:PE X (.BinOp a o b p) te)(j:PA X r t):PA X (.BinOp a o b p::r) (aZ te t):=aj z j rfl
theorem V0{X:Cx}{a b:Expr}{r:List Expr}{p:Pos}{te:TE}{t:TA}(z:PE X (.Subscript a b p) te)(j:PA X r t):PA X (.Subscript a b p::r) (aZ te t):=aj z j rfl
noncomputable def Tg(K:PySem.W.Frag)(ts:TE)(i j:Int):TE:=Io (Ay fun i j=>.int (i+j)) (Io (Ax K) ts (tC (.int i))) (tC (.int j))
noncomputable def t1(a:TE):TE:=Ij (aZ a cZ)
noncomputable def t2(a b:TE):TE:=Ij (aZ a (aZ b cZ))
noncomputable def t3(a b c:TE):TE:=Ij (aZ a (aZ b (aZ c cZ)))
noncomputable def cI(i:Int):TE:=tC (.int i)
noncomputable def tA(K:PySem.W.Frag)(ts:TE):TE:=f9 (aZ (f9 cZ) (aZ (f9 (aZ (t2 (cI 6) (Tg K ts 1 2)) cZ)) (aZ (f9 (aZ (t1 (cI 9)) (aZ (t2 (cI 5) (cI 1)) (aZ (t3 (cI 0) (cI 0) (cI 1)) cZ)))) cZ)))
noncomputable def tO(K:PySem.W.Frag)(ts:TE):TE:=f9 (aZ (f9 cZ) (aZ (f9 (aZ (t2 (cI 6) (cI 2)) (aZ (t3 (cI 0) (cI 1) (cI 1)) (aZ (t2 (cI 5) (Tg K ts 1 1)) cZ)))) (aZ (f9 (aZ (t1 (cI 9)) cZ)) cZ)))
noncomputable def tF(K:PySem.W.Frag)(ts:TE):TE:=f9 (aZ (f9 cZ) (aZ (f9 (aZ (t2 (cI 6) (Tg K ts 1 1)) cZ)) (aZ (f9 (aZ (t2 (cI 5) (Io (Ax K) ts (tC (.int 2)))) cZ)) (aZ (f9 cZ) cZ))))
section
variable {X:Cx} {sz:Expr} {ts:TE} {k1 k2 k3 k4 k5 k6 k7 k8 k9 x1 x2 x3 x4:Nat} {p0 p1 p2 p3 p4 p5 p6 p7 p8 p9 p10 p11 p12 p13 p14 p15 p16 p17 p18:Pos}
theorem Kr{i j:Int}(z:PE X sz ts):PE X (.BinOp (.Subscript sz (.Constant (.int i) k2 p2) p3) .Add (.Constant (.int j) k3 p4) p5) (Tg X.K ts i j):=dw pZ (b7 di z aB (fun _ _=>rfl)) aB
theorem QH{i:Int}:PE X (.Tuple [.Constant (.int i) k4 p8] x2 p9) (t1 (cI i)):=bJ (yQ au)
theorem QG{i j:Int}:PE X (.Tuple [.Constant (.int i) k4 p8,.Constant (.int j) k5 p10] x2 p9) (t2 (cI i) (cI j)):=bJ (yQ (yQ au))
theorem QF{i j m:Int}:PE X (.Tuple [.Constant (.int i) k4 p8,.Constant (.int j) k5 p10,.Constant (.int m) k6 p11] x2 p9) (t3 (cI i) (cI j) (cI m)):=bJ (yQ (yQ (yQ au)))
theorem Ko{i:Int}{a b:Expr}{o:Operator}{te:TE}(h:PE X (.BinOp a o b p10) te):PE X (.Tuple [.Constant (.int i) k4 p8,.BinOp a o b p10] x2 p9) (t2 (cI i) te):=bJ (yQ (V1 h au))
theorem Up{i:Int}{a b:Expr}{te:TE}(h:PE X (.Subscript a b p10) te):PE X (.Tuple [.Constant (.int i) k4 p8,.Subscript a b p10] x2 p9) (t2 (cI i) te):=bJ (yQ (V0 h au))
theorem DK:PE X (.List [] p0) (f9 cZ):=bT au
theorem DG{a:List Expr}{te:TE}(h:PE X (.Tuple a x1 p1) te):PE X (.List [.Tuple a x1 p1] p0) (f9 (aZ te cZ)):=bT (Oe h au)
theorem QJ{a b c:List Expr}{ta tb tc:TE}(z:PE X (.Tuple a x1 p1) ta)(D:PE X (.Tuple b x2 p2) tb)(j:PE X (.Tuple c x3 p3) tc):PE X (.List [.Tuple a x1 p1,.Tuple b x2 p2,.Tuple c x3 p3] p0) (f9 (aZ ta (aZ tb (aZ tc cZ)))):=bT (Oe z (Oe D (Oe j au)))
theorem RB{a b c:List Expr}{ta tb tc:TE}(z:PE X (.List a p1) ta)(D:PE X (.List b p2) tb)(j:PE X (.List c p3) tc):PE X (.List [.List a p1,.List b p2,.List c p3] p0) (f9 (aZ ta (aZ tb (aZ tc cZ)))):=bT (Bg z (Bg D (Bg j au)))
theorem Rz{a b c d:List Expr}{ta tb tc td:TE}(z:PE X (.List a p1) ta)(D:PE X (.List b p2) tb)(j:PE X (.List c p3) tc)(hd:PE X (.List d p4) td):PE X (.List [.List a p1,.List b p2,.List c p3,.List d p4] p0) (f9 (aZ ta (aZ tb (aZ tc (aZ td cZ))))):=bT (Bg z (Bg D (Bg j (Bg hd au))))
theorem Wx:PE X (.List [.Tuple [.Constant (.int 9) k4 p8] x2 p9,.Tuple [.Constant (.int 5) k5 p10,.Constant (.int 1) k6 p11] x3 p12,.Tuple [.Constant (.int 0) k7 p13,.Constant (.int 0) k8 p14,.Constant (.int 1) k9 p15] x4 p16] p17) (f9 (aZ (t1 (cI 9)) (aZ (t2 (cI 5) (cI 1)) (aZ (t3 (cI 0) (cI 0) (cI 1)) cZ)))):=QJ QH QG QF
theorem Ww(j:PE X sz ts):PE X (.List [.Tuple [.Constant (.int 6) k1 p1,.BinOp (.Subscript sz (.Constant (.int 1) k2 p2) p3) .Add (.Constant (.int 2) k3 p4) p5] x1 p6] p7) (f9 (aZ (t2 (cI 6) (Tg X.K ts 1 2)) cZ)):=DG (Ko (Kr j))
structure PB (X:Cx) (e:Expr) (t:TE):Prop where
 h:PE X e t
theorem Kz{a b c:List Expr}{ta tb tc:TE}(z:PB X (.List a p1) ta)(D:PB X (.List b p2) tb)(j:PB X (.List c p3) tc):PB X (.List [.List a p1,.List b p2,.List c p3] p0) (f9 (aZ ta (aZ tb (aZ tc cZ)))):=⟨RB z.h D.h j.h⟩
theorem VV(j:PE X sz ts):PB X (.List [.List [] p0,.List [.Tuple [.Constant (.int 6) k1 p1,.BinOp (.Subscript sz (.Constant (.int 1) k2 p2) p3) .Add (.Constant (.int 2) k3 p4) p5] x1 p6] p7,.List [.Tuple [.Constant (.int 9) k4 p8] x2 p9,.Tuple [.Constant (.int 5) k5 p10,.Constant (.int 1) k6 p11] x3 p12,.Tuple [.Constant (.int 0) k7 p13,.Constant (.int 0) k8 p14,.Constant (.int 1) k9 p15] x4 p16] p17] p18) (tA X.K ts):=Kz ⟨DK⟩ ⟨Ww j⟩ ⟨Wx⟩
theorem Wv(j:PE X sz ts):PE X (.List [.Tuple [.Constant (.int 6) k5 p10,.Constant (.int 2) k6 p11] x3 p12,.Tuple [.Constant (.int 0) k7 p13,.Constant (.int 1) k8 p14,.Constant (.int 1) k9 p15] x4 p16,.Tuple [.Constant (.int 5) k1 p1,.BinOp (.Subscript sz (.Constant (.int 1) k2 p2) p3) .Add (.Constant (.int 1) k3 p4) p5] x1 p6] p7) (f9 (aZ (t2 (cI 6) (cI 2)) (aZ (t3 (cI 0) (cI 1) (cI 1)) (aZ (t2 (cI 5) (Tg X.K ts 1 1)) cZ)))):=QJ QG QF (Ko (Kr j))
theorem VP(j:PE X sz ts):PB X (.List [.List [] p0,.List [.Tuple [.Constant (.int 6) k5 p10,.Constant (.int 2) k6 p11] x3 p12,.Tuple [.Constant (.int 0) k7 p13,.Constant (.int 1) k8 p14,.Constant (.int 1) k9 p15] x4 p16,.Tuple [.Constant (.int 5) k1 p1,.BinOp (.Subscript sz (.Constant (.int 1) k2 p2) p3) .Add (.Constant (.int 1) k3 p4) p5] x1 p6] p7,.List [.Tuple [.Constant (.int 9) k4 p8] x2 p9] p17] p18) (tO X.K ts):=Kz ⟨DK⟩ ⟨Wv j⟩ ⟨DG QH⟩
theorem RG{a b c d:List Expr}{ta tb tc td:TE}(z:PB X (.List a p1) ta)(D:PB X (.List b p2) tb)(j:PB X (.List c p3) tc)(hd:PB X (.List d p4) td):PB X (.List [.List a p1,.List b p2,.List c p3,.List d p4] p0) (f9 (aZ ta (aZ tb (aZ tc (aZ td cZ))))):=⟨Rz z.h D.h j.h hd.h⟩
theorem VR{j:Expr}(D:PE X sz ts)(z:PE X j ts):PB X (.List [.List [] p0,.List [.Tuple [.Constant (.int 6) k1 p1,.BinOp (.Subscript sz (.Constant (.int 1) k2 p2) p3) .Add (.Constant (.int 1) k3 p4) p5] x1 p6] p7,.List [.Tuple [.Constant (.int 5) k4 p8,.Subscript j (.Constant (.int 2) k5 p10) p11] x2 p9] p12,.List [] p13] p18) (tF X.K ts):=RG ⟨DK⟩ ⟨DG (Ko (Kr D))⟩ ⟨DG (Up (b7 di z aB (fun _ _=>rfl)))⟩ ⟨DK⟩
structure Wu (X:Cx) (st:Stmt) (t:TS):Prop where
 h:PS X st t
structure S7 (X:Cx) (st:List Stmt) (t:TS):Prop where
 h:zQ X st t
theorem wW{e:Expr}{te:TE}{pos:Pos}(h:PB X e te):Wu X (.Return (some e) pos) (Fv te):=⟨aV h.h⟩
theorem wX{st:Stmt}{t:TS}(h:Wu X st t):S7 X [st] t:=⟨ao h.h⟩
theorem Bb{c:Expr}{a b:List Stmt}{tc:TT}{t u:TS}{pos:Pos}(j:PT X c tc)(z:S7 X a t)(D:S7 X b u):PS X (.If c a b pos) (Fw tc t u):=aX j z.h D.h
end
theorem kY{H:Hp}{x:Addr}(h:H x=some (.lst [])):dz H [] x:=⟨[],h,.nil⟩
section
theorem Jy:aK ["node","sizes","n","part"] ["node","sizes","n"] (aD JN):=⟨rfl,rfl,rfl,by decide +kernel,rfl,by decide +kernel,by decide +kernel⟩
theorem RQ{f C Cx fL:Addr}{fd dL:FuncData}(F:Fn K mg "own_instructions" JN f fd ["node","sizes","n"])(N:v_ K C)(T:CP K mg)(TC:CN K mg)(FL:Fn K mg "last_instructions" yI fL dL ["node","n"])(GL:aF P w K mg base (aW P w) 5 fL dL ["node","n"] (Af C Cx)):aF P w K mg base (aW P w) 6 f fd ["node","sizes","n"] (Jc C Cx):=by
 refine dZ F.F Jy (fun vs H Q E h=>?_) (fun cdv A outer s H vs Q E hr h=>?_)
 ·obtain⟨_,_,_,_,_,rfl,_⟩:=h
  rfl
 ·obtain⟨a,sl,e,sz,n,rfl,aC,hn,aS,ag,hsz,ah,k,kr⟩:=h
  obtain⟨dx,D,l,as,h1,hD,hl,hp⟩:=oX hn
  refine⟨_,aq (Bb (aG cz (aJ (pv 0) rfl) (bu rfl TC.AND) (aL _)) (wX (wW (VV (pv 1)))) ⟨aP⟩)
   (aq (Bb (aG cz (aJ (pv 0) rfl) (bu rfl TC.OR) (aL _)) (wX (wW (VP (pv 1)))) ⟨aP⟩)
   (aq (Bb (aG cz (aJ (pv 0) rfl) (bu rfl TC.IF) (aL _)) (wX (wW (VR (pv 1) (pv 1)))) ⟨aP⟩)
   (ao (aV (dw xj (yO (own:=[("part",3)]) (te:=f9 cZ) rfl Jy.nd (jj (aJ (pv 0) rfl)) (iY (by kernel_rfl))
     (fun _ _ _ _ _=>by exact cX (i:=3) Jy.nd rfl (Or.inl rfl)) (fun _ _ _ _ _=>by exact lJ) (fun _ _ _ _ _=>by exact bT au))
    (bT (aj (a_ GL hr rfl FL.m FL.F.kp FL.b .nil passes (aj (pv 0) (aj (pv 2) au))) au))))))),?_⟩
  refine⟨_,rfl,a,C,dx,_,_,rfl,h1,N.cl,N.nF,rfl,rfl,_,rfl,?_⟩
  have af:∀i:Nat,i<sz.length→qY (sz.map fun(x:Nat)=>V.int x) (i:Int)=some (V.int (sz.getD i 0:Nat)):=fun i hi=>jx (by rw[iE,ii hi,List.getD_eq_getElem?_getD,ii hi];rfl)
  cases e with
  | and b c =>
   refine bh ⟨(by show 0≤sizeLine;decide),fun q0 Y=>⟨_,rfl,sl,_,1,_,rfl,rfl,bZ.of (aA.upd Y _ _ ag),af 1 (by rw[hsz];exact Nat.le_of_ble_eq_true rfl),_,_,rfl,rfl,(by show 2≤sizeLine;decide),fun r1 U=>⟨(by show 1≤sizeLine;decide),fun q1 J=>⟨(by show 1≤sizeLine;decide),fun r2 G=>⟨(by show 2≤sizeLine;decide),fun r3 Z=>⟨(by show 3≤sizeLine;decide),fun r4 O=>⟨(by show 3≤sizeLine;decide),fun q2 j=>⟨(by show 3≤sizeLine;decide),fun L S=>?_⟩⟩⟩⟩⟩⟩⟩⟩
   refine k trivial L _ (same_none ((aA.upd Y).trans ((aA.upd U).trans ((aA.upd J).trans ((aA.upd G).trans ((aA.upd Z).trans ((aA.upd O).trans (aA.upd j))))))) S) ((aA.upd Y).trans ((aA.upd U).trans ((aA.upd J).trans ((aA.upd G).trans ((aA.upd Z).trans ((aA.upd O).trans ((aA.upd j).trans (aA.upd S)))))))) ⟨[q0,q1,q2],ak,.cons ?_ (.cons ?_ (.cons ?_ .nil))⟩
   ·exact kY (((aA.upd U).trans ((aA.upd J).trans ((aA.upd G).trans ((aA.upd Z).trans ((aA.upd O).trans ((aA.upd j).trans (aA.upd S))))))) q0 _ ak)
   ·exact⟨[r1],((aA.upd G).trans ((aA.upd Z).trans ((aA.upd O).trans ((aA.upd j).trans (aA.upd S))))) q1 _ ak,.cons (((aA.upd J).trans ((aA.upd G).trans ((aA.upd Z).trans ((aA.upd O).trans ((aA.upd j).trans (aA.upd S)))))) r1 _ ak) .nil⟩
   ·exact⟨[r2,r3,r4],(aA.upd S) q2 _ ak,.cons (((aA.upd Z).trans ((aA.upd O).trans ((aA.upd j).trans (aA.upd S)))) r2 _ ak) (.cons (((aA.upd O).trans ((aA.upd j).trans (aA.upd S))) r3 _ ak) (.cons (((aA.upd j).trans (aA.upd S)) r4 _ ak) .nil))⟩
  | or b c =>
   refine aR ⟨_,rfl,a,C,dx,_,_,rfl,h1,N.cl,N.nF,rfl,rfl,_,rfl,bh ⟨(by show 0≤sizeLine;decide),fun q0 Y=>⟨(by show 2≤sizeLine;decide),fun r1 U=>⟨(by show 3≤sizeLine;decide),fun r2 G=>⟨_,rfl,sl,_,1,_,rfl,rfl,bZ.of (((aA.upd Y).trans ((aA.upd U).trans (aA.upd G))) _ _ ag),af 1 (by rw[hsz];exact Nat.le_of_ble_eq_true rfl),_,_,rfl,rfl,(by show 2≤sizeLine;decide),fun r3 Z=>⟨(by show 3≤sizeLine;decide),fun q1 J=>⟨(by show 1≤sizeLine;decide),fun r4 O=>⟨(by show 1≤sizeLine;decide),fun q2 j=>⟨(by show 3≤sizeLine;decide),fun L S=>?_⟩⟩⟩⟩⟩⟩⟩⟩⟩
   refine k trivial L _ (same_none ((aA.upd Y).trans ((aA.upd U).trans ((aA.upd G).trans ((aA.upd Z).trans ((aA.upd J).trans ((aA.upd O).trans (aA.upd j))))))) S) ((aA.upd Y).trans ((aA.upd U).trans ((aA.upd G).trans ((aA.upd Z).trans ((aA.upd J).trans ((aA.upd O).trans ((aA.upd j).trans (aA.upd S)))))))) ⟨[q0,q1,q2],ak,.cons ?_ (.cons ?_ (.cons ?_ .nil))⟩
   ·exact kY (((aA.upd U).trans ((aA.upd G).trans ((aA.upd Z).trans ((aA.upd J).trans ((aA.upd O).trans ((aA.upd j).trans (aA.upd S))))))) q0 _ ak)
   ·exact⟨[r1,r2,r3],((aA.upd O).trans ((aA.upd j).trans (aA.upd S))) q1 _ ak,.cons (((aA.upd G).trans ((aA.upd Z).trans ((aA.upd J).trans ((aA.upd O).trans ((aA.upd j).trans (aA.upd S)))))) r1 _ ak) (.cons (((aA.upd Z).trans ((aA.upd J).trans ((aA.upd O).trans ((aA.upd j).trans (aA.upd S))))) r2 _ ak) (.cons (((aA.upd J).trans ((aA.upd O).trans ((aA.upd j).trans (aA.upd S)))) r3 _ ak) .nil))⟩
   ·exact⟨[r4],(aA.upd S) q2 _ ak,.cons (((aA.upd j).trans (aA.upd S)) r4 _ ak) .nil⟩
  | cond d b c =>
   refine aR ⟨_,rfl,a,C,dx,_,_,rfl,h1,N.cl,N.nF,rfl,rfl,_,rfl,aR ⟨_,rfl,a,C,dx,_,_,rfl,h1,N.cl,N.nF,rfl,rfl,_,rfl,bh ⟨(by show 0≤sizeLine;decide),fun q0 Y=>⟨_,rfl,sl,_,1,_,rfl,rfl,bZ.of (aA.upd Y _ _ ag),af 1 (by rw[hsz];exact Nat.le_of_ble_eq_true rfl),_,_,rfl,rfl,(by show 2≤sizeLine;decide),fun r1 U=>⟨(by show 1≤sizeLine;decide),fun q1 J=>⟨_,rfl,sl,_,2,_,rfl,rfl,bZ.of (((aA.upd Y).trans ((aA.upd U).trans (aA.upd J))) _ _ ag),af 2 (by rw[hsz];exact Nat.le_of_ble_eq_true rfl),(by show 2≤sizeLine;decide),fun r2 G=>⟨(by show 1≤sizeLine;decide),fun q2 j=>⟨(by show 0≤sizeLine;decide),fun q3 aa=>⟨(by show 4≤sizeLine;decide),fun L S=>?_⟩⟩⟩⟩⟩⟩⟩⟩⟩
   refine k trivial L _ (same_none ((aA.upd Y).trans ((aA.upd U).trans ((aA.upd J).trans ((aA.upd G).trans ((aA.upd j).trans (aA.upd aa)))))) S) ((aA.upd Y).trans ((aA.upd U).trans ((aA.upd J).trans ((aA.upd G).trans ((aA.upd j).trans ((aA.upd aa).trans (aA.upd S))))))) ⟨[q0,q1,q2,q3],ak,.cons ?_ (.cons ?_ (.cons ?_ (.cons ?_ .nil)))⟩
   ·exact kY (((aA.upd U).trans ((aA.upd J).trans ((aA.upd G).trans ((aA.upd j).trans ((aA.upd aa).trans (aA.upd S)))))) q0 _ ak)
   ·exact⟨[r1],((aA.upd G).trans ((aA.upd j).trans ((aA.upd aa).trans (aA.upd S)))) q1 _ ak,.cons (((aA.upd J).trans ((aA.upd G).trans ((aA.upd j).trans ((aA.upd aa).trans (aA.upd S))))) r1 _ ak) .nil⟩
   ·exact⟨[r2],((aA.upd aa).trans (aA.upd S)) q2 _ ak,.cons (((aA.upd j).trans ((aA.upd aa).trans (aA.upd S))) r2 _ ak) .nil⟩
   ·exact kY ((aA.upd S) q3 _ ak)
  | _ =>
   refine aR ⟨_,rfl,a,C,dx,_,_,rfl,h1,N.cl,N.nF,rfl,rfl,_,rfl,aR ⟨_,rfl,a,C,dx,_,_,rfl,h1,N.cl,N.nF,rfl,rfl,_,rfl,aR ?_⟩⟩
   refine⟨_,rfl,a,C,dx,_,_,rfl,h1,N.cl,N.nP,rfl,l,rfl,⟨_,bZ.of hl⟩,fun L S=>?_⟩
   refine lV (K:=K) (a:=l) (xs:=as.map V.ref) (fun i H'=>aA H H'∧∃ls:List Addr,H' L=some (.lst (ls.map V.ref))∧ls.length=i∧∀x∈ls,x≠L∧H' x=some (.lst [])) ⟨aA.upd S,[],ak,rfl,by simp⟩ (fun i H' _ ⟨s1,_⟩=>bZ.of (s1 _ _ hl)) ?_ ?_
   ·rintro i y H' hi ⟨s1,ls,ac,ae,ar⟩
    have aT:i<100001:=by
     have:=(hZ.mp hi).1
     rw[ap,←Paired.length hp]at this
     omega
    refine⟨rfl,(by show 0≤sizeLine;decide),fun q hq=>?_⟩
    have ai:L≠q:=fun z=>by rw[z,hq]at ac;cases ac
    refine⟨_,by rw[az ai];exact ac,by rw[ap,ae];exact ic aT (by decide),fun b o z=>?_,ls++[q],by rw[ak,kb];rfl,by rw[gc,ae];rfl,fun x hx=>?_⟩
    ·have ay:b≠L:=fun y=>by rw[y,S]at z;cases z
     have aI:b≠q:=fun y=>by rw[←y,s1 _ _ z]at hq;cases hq
     rw[az ay,az aI]
     exact s1 _ _ z
    ·rcases List.mem_append.mp hx with hx | hx
     ·obtain⟨g1,g2⟩:=ar x hx
      have aE:x≠q:=fun y=>by rw[y,hq]at g2;cases g2
      exact⟨g1,by rw[az g1,az aE];exact g2⟩
     ·obtain rfl:=List.mem_singleton.mp hx
      exact⟨Ne.symm ai,by rw[az (Ne.symm ai),ak]⟩
   ·rintro H1 ⟨s1,ls,ac,ae,ar⟩
    refine⟨_,rfl,_,rfl,a,_,n,rfl,aC,hn.same s1,aS,trivial,ah,fun al l2 ts H2 a3 s2 ax av a0=>⟨(by show 1≤sizeLine;decide),fun q hq=>?_⟩,fun al=>(kr al).mono s1⟩
    have s3:aA H2 (L2.upd H2 q (.lst [V.ref l2])):=aA.upd hq
    refine⟨L,q,_,_,rfl,rfl,s3 _ _ (s2 _ _ ac),ak,?_,fun p aw=>?_⟩
    ·rw[ap,ae,ap,←Paired.length hp]
     exact iq (Nat.add_le_add ah (f' _)) (by show 100001≤sizeLine;decide)
    ·have s4:=s3.trans (aA.upd (o:=.lst (ls.map V.ref++[V.ref l2])) aw)
     refine k al p _ (same_none (s1.trans (s2.trans s3)) aw) (s1.trans (s2.trans s4)) ⟨ls++[l2],by rw[ak,kb];rfl,?_⟩
     refine cu ?_ ⟨ts,s4 _ _ ax,av.same s4⟩
     have hk:ls.length=as.length:=by rw[ae,ap]
     have:∀(m:List Addr),(∀x∈m,H1 x=some (.lst []))→Paired (dz (L2.upd (L2.upd H2 q (.lst [V.ref l2])) p (.lst (ls.map V.ref++[V.ref l2])))) (List.replicate m.length []) m:=by
      intro m
      induction m with
      | nil=>intro _;exact .nil
      | cons x r ih=>intro hm;exact .cons (kY (s4 _ _ (s2 _ _ (hm x b')))) (ih fun y hy=>hm y (am _ hy))
     have:=this ls fun x hx=>(ar x hx).2
     rw[hk,←Paired.length hp]at this
     exact this
end
noncomputable def dX:List Vbdeaa.Code→List Vbdeaa.Code→Vbdeaa.Code
 | r::j,b::bs=>r++(b++dX j bs)
 | _,_=>[]
noncomputable def glue:List Vbdeaa.Code→List Vbdeaa.Code→Vbdeaa.Code
 | o::os,j=>o++dX j os
 | [],_=>[]
theorem uH:∀(j bs:List Vbdeaa.Code)(r b:Vbdeaa.Code),j.length=bs.length→dX (j++[r]) (bs++[b])=dX j bs++(r++b)
 | [],[],r,b,_=>by show r++(b++[])=[]++(r++b);simp
 | x::j,y::bs,r,b,h=>by
  show x++(y++dX (j++[r]) (bs++[b]))=(x++(y++dX j bs))++(r++b)
  rw[uH j bs r b (by simpa using h)]
  simp only[im]
 | [],y::bs,r,b,h=>by cases h
 | x::j,[],r,b,h=>by cases h
theorem qP(last:Vbdeaa.Code):∀(j:List Vbdeaa.Code)(r:Vbdeaa.Code),dX (r::j) (List.replicate j.length []++[last])=r++(j.flatten++last)
 | [],r=>by show r++(last++[])=r++([]++last);simp
 | x::j,r=>by
  show r++([]++dX (x::j) (List.replicate j.length []++[last]))=r++((x++j.flatten)++last)
  rw[qP last j x]
  simp only[List.nil_append,im]
theorem BK(last:Vbdeaa.Code)(j:List Vbdeaa.Code):glue (List.replicate j.length []++[last]) j=j.flatten++last:=by
 cases j with
 | nil=>show last++[]=[]++last;simp
 | cons r j =>
  show []++dX (r::j) (List.replicate j.length []++[last])=(r++j.flatten)++last
  rw[qP]
  simp only[List.nil_append,im]
theorem nY(n:Nat):∀l:Exps,Vbdeam.codesOf n l=((tH l).map (Vbdeam.codeOf n)).flatten
 | .nil=>rfl
 | .cons e l=>by
  show Vbdeam.codeOf n e++Vbdeam.codesOf n l=Vbdeam.codeOf n e++((tH l).map (Vbdeam.codeOf n)).flatten
  rw[nY n l]
noncomputable def lens(n:Nat)(e:Exp):List Nat:=(kids e).map fun k=>(Vbdeam.codeOf n k).length
theorem Hb(n:Nat)(e:Exp):glue (Bh n (lens n e) e) ((kids e).map (Vbdeam.codeOf n))=Vbdeam.codeOf n e:=by
 have pl:∀{e:Exp},Bh n (lens n e) e=List.replicate (kids e).length []++[zb n e]→Vbdeam.codeOf n e=((kids e).map (Vbdeam.codeOf n)).flatten++zb n e→glue (Bh n (lens n e) e) ((kids e).map (Vbdeam.codeOf n))=Vbdeam.codeOf n e:=fun{e} h1 h2=>by
  rw[h1,h2,show(kids e).length=((kids e).map (Vbdeam.codeOf n)).length by rw[ap],BK]
 cases e with
 | num q=>exact pl rfl rfl
 | name t=>exact pl rfl rfl
 | un o a =>
  refine pl rfl ?_
  show Vbdeam.codeOf n a++[.un o]=(Vbdeam.codeOf n a++[])++[.un o]
  rw[i8]
 | bin o a b =>
  refine pl rfl ?_
  show Vbdeam.codeOf n a++(Vbdeam.codeOf n b++[.bin o])=(Vbdeam.codeOf n a++(Vbdeam.codeOf n b++[]))++[.bin o]
  simp only[i8,im]
 | and a b =>
  show []++(Vbdeam.codeOf n a++([.zero ((Vbdeam.codeOf n b).length+2)]++(Vbdeam.codeOf n b++([.truth,.jump 1,.push (0,1)]++[]))))=Vbdeam.codeOf n a++(.zero ((Vbdeam.codeOf n b).length+2)::(Vbdeam.codeOf n b++[.truth,.jump 1,.push (0,1)]))
  rfl
 | or a b =>
  show []++(Vbdeam.codeOf n a++([.zero 2,.push (1,1),.jump ((Vbdeam.codeOf n b).length+1)]++(Vbdeam.codeOf n b++([.truth]++[]))))=Vbdeam.codeOf n a++(.zero 2 :: .push (1,1) :: .jump ((Vbdeam.codeOf n b).length+1)::(Vbdeam.codeOf n b++[.truth]))
  rfl
 | cond c a b =>
  show []++(Vbdeam.codeOf n c++([.zero ((Vbdeam.codeOf n a).length+1)]++(Vbdeam.codeOf n a++([.jump (Vbdeam.codeOf n b).length]++(Vbdeam.codeOf n b++([]++[]))))))=Vbdeam.codeOf n c++(.zero ((Vbdeam.codeOf n a).length+1)::(Vbdeam.codeOf n a++(.jump (Vbdeam.codeOf n b).length::Vbdeam.codeOf n b)))
  simp only[i8,List.nil_append,i3]
 | best g l =>
  refine pl rfl ?_
  show Vbdeam.codesOf n l++List.replicate (l.length-1) (.best g)=((tH l).map (Vbdeam.codeOf n)).flatten++List.replicate ((tH l).length-1) (.best g)
  rw[nY,xJ]
 | use t l =>
  refine pl rfl ?_
  show Vbdeam.codeOf n (.use t l)=((tH l).map (Vbdeam.codeOf n)).flatten++(Vbdeam.codeOf n (.use t l)).drop (Vbdeam.codesOf n l).length
  rw[←nY]
  simp only[Vbdeam.codeOf,List.drop_left]
theorem DP(n:Nat)(sz:List Nat)(e:Exp):(Bh n sz e).length=(kids e).length+1:=by
 cases e<;>first | rfl | (show(List.replicate _ ([]:Vbdeaa.Code)++[_]).length=_;rw[gc,List.length_replicate];rfl)
mutual
theorem cU(n:Nat):∀e:Exp,(Vbdeam.codeOf n e).length+1≤5*Vbdeam.size e
 | .num q=>by show 1+1≤5*1;omega
 | .name t=>by
  have:(Vbdeam.codeOf n (.name t)).length=1:=by
   simp only[Vbdeam.codeOf]
   split
   ·rfl
   ·split<;>rfl
  rw[this];show 1+1≤5*1;omega
 | .un o a=>by
  have:=cU n a
  simp only[Vbdeam.codeOf,Vbdeam.size,gc,cr,iA]
  omega
 | .bin o a b=>by
  have:=cU n a;have:=cU n b
  simp only[Vbdeam.codeOf,Vbdeam.size,gc,cr,iA]
  omega
 | .and a b=>by
  have:=cU n a;have:=cU n b
  simp only[Vbdeam.codeOf,Vbdeam.size,gc,cr,iA]
  omega
 | .or a b=>by
  have:=cU n a;have:=cU n b
  simp only[Vbdeam.codeOf,Vbdeam.size,gc,cr,iA]
  omega
 | .cond c a b=>by
  have:=cU n c;have:=cU n a;have:=cU n b
  simp only[Vbdeam.codeOf,Vbdeam.size,gc,cr,iA]
  omega
 | .best g l=>by
  have:=ql n l
  simp only[Vbdeam.codeOf,Vbdeam.size,gc,List.length_replicate]
  omega
 | .use t l=>by
  have:=ql n l
  simp only[Vbdeam.codeOf,Vbdeam.size,gc]
  split<;>simp only[cr,iA]<;>omega
theorem ql(n:Nat):∀l:Exps,(Vbdeam.codesOf n l).length+l.length≤5*Vbdeam.sizeAll l
 | .nil=>by show 0+0≤_;omega
 | .cons e l=>by
  have:=cU n e;have:=ql n l
  simp only[Vbdeam.codesOf,Vbdeam.sizeAll,gc,Exps.length]
  omega
end
theorem je:∀l:Exps,Vbdeam.sizeAll l=((tH l).map Vbdeam.size).sum
 | .nil=>rfl
 | .cons e l=>by
  show Vbdeam.size e+Vbdeam.sizeAll l=Vbdeam.size e+((tH l).map Vbdeam.size).sum
  rw[je l]
theorem pQ(e:Exp):Vbdeam.size e=((kids e).map Vbdeam.size).sum+1:=by
 cases e with
 | num q=>rfl
 | name n=>rfl
 | un o a=>show Vbdeam.size a+1=(Vbdeam.size a+0)+1;omega
 | bin o a b=>show Vbdeam.size a+Vbdeam.size b+1=(Vbdeam.size a+(Vbdeam.size b+0))+1;omega
 | and a b=>show Vbdeam.size a+Vbdeam.size b+1=(Vbdeam.size a+(Vbdeam.size b+0))+1;omega
 | or a b=>show Vbdeam.size a+Vbdeam.size b+1=(Vbdeam.size a+(Vbdeam.size b+0))+1;omega
 | cond c a b=>show Vbdeam.size c+Vbdeam.size a+Vbdeam.size b+1=(Vbdeam.size c+(Vbdeam.size a+(Vbdeam.size b+0)))+1;omega
 | best g l=>show Vbdeam.sizeAll l+1=_;rw[je];rfl
 | use t l=>show Vbdeam.sizeAll l+1=_;rw[je];rfl
theorem Jm(e:Exp):1≤Vbdeam.size e:=by rw[pQ];omega
theorem Dg:∀{l:List Nat}{x:Nat},x∈l→x≤l.sum
 | a::l,x,h=>by
  rw[List.sum_cons]
  rcases hU.mp h with h | h
  ·omega
  ·have:=Dg h;omega
theorem Ln{e k:Exp}(h:k∈kids e):Vbdeam.size k<Vbdeam.size e:=by
 have:=Dg (List.mem_map_of_mem (f:=Vbdeam.size) h)
 have:=pQ e
 omega
theorem Lk(e:Exp):(kids e).length<Vbdeam.size e:=by
 have:∀l:List Exp,l.length≤(l.map Vbdeam.size).sum:=by
  intro l
  induction l with
  | nil=>exact f' _
  | cons x r j =>
   have:=Jm x
   rw[i6,List.sum_cons,cr]
   omega
 have:=this (kids e)
 have:=pQ e
 omega
end SB
end
section
namespace XL
open PySem PySem.Spec PyProof.Rows L2
theorem Qi{K:PySem.W.Frag}{a b:Addr}{xs ys:List V}{g:TG}{tb:TS}{D:Ends}{σ:L2.St}{H:Hp}(z:xs.length=ys.length)(Pv:Nat→L2.St→Hp→Prop)(h0:Pv 0 σ H)(U:∀i σ H,i≤xs.length→Pv i σ H→bZ K H a xs∧bZ K H b ys)
  (S:∀i x y σ H T,xs[i]?=some x→ys[i]?=some y→Pv i σ H→H T=none→g (.ref T) σ (L2.upd H T (.tup [x,y])) fun σ2 H2=>tb { D with nx:=Pv (i+1),ct:=Pv (i+1),bk:=D.nx } σ2 H2) (hd:∀σ H,Pv xs.length σ H→D.nx σ H) :
  ∃W:Nat→Nat→L2.St→Hp→Prop,(∃m,W 0 m σ H)∧∀i m σ H,W i m σ H →
   ((Vb K a b).stop i H∧D.nx σ H)∨((Vb K a b).go i H∧∃N:L2.St→Hp→Prop,(∀σ' H',N σ' H'→∃O,O<m∧W (i+1) O σ' H')∧∀x H',(Vb K a b).yld i H x H'→g x σ H' fun σ2 H2=>tb { D with nx:=N,ct:=N,bk:=D.nx } σ2 H2):=by
 refine⟨fun i m σ H=>m=xs.length-i∧i≤xs.length∧Pv i σ H,⟨xs.length,by simp,Nat.zero_le _,h0⟩,?_⟩
 rintro i m σ H ⟨rfl,hi,p⟩
 obtain⟨G,F⟩:=U i σ H hi p
 by_cases j:i<xs.length
 ·refine .inr ⟨⟨xs,ys,xs[i],ys[i],G,F,by simp[j],by simp[z▸j]⟩,Pv (i+1),fun σ' H' p'=>⟨xs.length-(i+1),by omega,rfl,j,p'⟩,fun x H' y=>?_⟩
  obtain⟨T,Y,Z,rfl,hT,rfl,L,J⟩:=y
  exact S i Y Z σ H T (L xs G) (J ys F) p hT
 ·have e:i=xs.length:=by omega
  subst e
  exact .inl ⟨⟨xs,ys,G,F,.inl (f' _)⟩,hd σ H p⟩
theorem qb(S it:Addr)(old:Array Value)(F:Nat)(dd:Option Addr)(sl:Array (Option Value))(items:Array Value)(n:Nat)(z:¬(!old.isEmpty&&Builtin.List.listTooLong (old.size+items.size))=true)(h1:old.size≤sizeLine)(h2:old.size+items.size≤sizeLine+1) :
  Meets (Builtin.«list.extend» ⟨[.ref S,.ref it],[]⟩) (fun _ R s=>s.heap.get? S=some { cls:=.type "list",dict:=none,data:=.seq old F,slots:=#[] }∧s.heap.get? it=some { cls:=.type "tuple",dict:=dd,data:=.seq items n,slots:=sl }∧R (.ok (.ret Value.none)) { s with heap:=s.heap.update S (Obj.mapSeq fun x=>x++items),toks:=s.toks }) :=
 .of_wp fun prog w A R s h=>by
  obtain⟨U,g,d,tk,os⟩:=s;obtain⟨D,G,h⟩:=h;have f1:=AutoSeq1.idx_int;have f2:=AutoSeq1.sub_tuple_tuple;have J:=AutoSeq1.sub_list_list;have O:=AutoSeq1.sub_tuple_list;have L:=AutoSeq1.sub_list_tuple
  have j:(old++items).size≤sizeLine+1:=by rw[Array.size_append];exact h2
  wp_walk using (wpAny_updateSeq D rfl (hz:=h1) (_hz':=j)),AutoSeq1.wpAny_loadPart' D,AutoSeq1.wpAny_loadPart' G;exact⟨_,rfl,h⟩
noncomputable def Ka(K:PySem.W.Frag):V→List V→Hp→VK→Prop:=fun x vs H Q=>∃l b xs zs,x=.ref l∧vs=[.ref b]∧H l=some (.lst xs)∧cR K H b zs∧xs.length+zs.length≤sizeLine∧Q .non (L2.upd H l (.lst (xs++zs)))
theorem Bo{X:Cx}:Vn X "list.extend" (Ka X.K):=by
 intro pins s σ H x vs v us Q I U rv h
 obtain⟨l,b,xs,zs,rfl,rfl,S,Y,hz,q⟩:=h
 cases U
 obtain⟨u,rfl,Z⟩:=rv.one
 cases Z
 obtain⟨z,its,n,r,hl,e⟩:=I.Br S
 obtain⟨j,L,⟨o,ho,J,O,hd⟩,aa⟩:=I.tuple Y
 obtain⟨oc,od,G,osl⟩:=o
 have J:oc=.type "tuple":=J
 have hd:G=.seq j.toArray O:=hd
 subst J hd
 have ac:=L.length
 have hsz:its.toArray.size+j.toArray.size≤sizeLine:=by rw[ib,ib];omega
 have D:¬(!its.toArray.isEmpty&&Builtin.List.listTooLong (its.toArray.size+j.toArray.size))=true:=by
  rw[yV hsz,Bool.and_false]
  exact ip
 refine call_meets F.slot_list_extend ⟨_,e,rfl⟩ F.entry_list_extend (F.args_list_extend_2 _ _)
  (qb l b its.toArray n od osl j.toArray O D (by rw[ib];omega) (by omega)) ⟨e,ho,?_⟩
 refine⟨.non,_,I.Pj (its':=its++j) S e (by simp) (r.append L) ?_,rfl,q⟩
 rw[gc]
 omega
end XL
end
section
namespace SB
open PySem PySem.Spec PyProof.Rows L2 XL
open Vbdeaa (Text Exp Exps Un Bin Ins)
variable {P:Program} {w:World} {K:PySem.W.Frag} {mg:Str→Option Value} {base:Heap}
theorem bC.trans{x:Addr}{H H1 H2:Hp}(a:bC x H H1)(b:bC x H1 H2):bC x H H2:=fun c o h j=>b c o (a c o h j) j
theorem bC.wk{x:Addr}{H H1:Hp}{o:HO}(a:bC x H H1):bC x H (L2.upd H1 x o):=fun c u h j=>by rw[az j];exact a c u h j
theorem bC.same{x:Addr}{H H1 H2:Hp}(h:H x=none)(s:aA H H1)(a:bC x H1 H2):aA H H2:=fun c u j=>a c u (s c u j) (aH j h)
theorem dh.oG{x:Addr}{H H':Hp}{c:Vbdeaa.Code}{ts:List Addr}{xs:List V}(hx:H x=some (.lst xs))(s:bC x H H')(h:dh H c ts):dh H' c ts :=
 cP h fun _ t _ q=>s _ _ q (qL q hx (by intro z;cases z))
theorem dz.oG{x p:Addr}{H H':Hp}{c:Vbdeaa.Code}{xs:List V}(hx:H x=some (.lst xs))(j:p≠x)(s:bC x H H')(h:dz H c p):dz H' c p:=by
 obtain⟨ts,h1,h2⟩:=h
 exact⟨ts,s _ _ h1 j,h2.oG hx s⟩
theorem qF{H:Hp}{c d:Vbdeaa.Code}{ts us:List Addr}(h1:dh H c ts)(h2:dh H d us):dh H (c++d) (ts++us):=by
 unfold dh jU at *
 rw[kb]
 generalize c.map Ins.told=l at h1
 generalize d.map Ins.told=m at h2
 induction h1 with
 | nil=>exact h2
 | cons a b j=>exact .cons a j
theorem oR{H:Hp}{c:Vbdeaa.Code}{ts:List Addr}(h:dh H c ts):ts.length=c.length:=by
 have:=Paired.length h
 unfold jU at this
 rw[ap]at this
 exact this.symm
theorem JZ{H:Hp}{c:Vbdeaa.Code}{ts:List Addr}{x:Addr}{xs:List V}(hx:H x=some (.lst xs))(h:dh H c ts):x∉ts:=by
 intro j
 unfold dh at h
 generalize jU c=l at h
 induction h with
 | nil=>cases j
 | cons a b z =>
  rcases hU.mp j with rfl | j
  ·rw[hx]at a;cases a
  ·exact z j
theorem oU{as:List Addr}{i:Nat}{x:V}(h:(as.map V.ref)[i]?=some x):∃a,as[i]?=some a∧x=V.ref a:=by
 rw[iE]at h
 cases q:as[i]? with
 | none=>rw[q]at h;cases h
 | some a=>rw[q]at h;exact⟨a,rfl,(Option.some.inj h).symm⟩
theorem Bu{F:Exp→Addr→Prop}{es:List Exp}{as:List Addr}{i:Nat}{b:Addr}(D:Paired F es as)(h:as[i]?=some b):∃k,es[i]?=some k∧F k b:=by
 have J:i<es.length:=by rw[Paired.length D];exact(hZ.mp h).1
 obtain⟨k,z⟩:∃k,es[i]?=some k:=⟨_,ii J⟩
 obtain⟨L,j,G⟩:=d_ D z
 rw[h]at j
 cases j
 exact⟨k,z,G⟩
theorem vU:∀(j bs:List Vbdeaa.Code)(i:Nat),(dX (j.take i) (bs.take i)).length≤(dX j bs).length
 | [],_,i=>by rw[List.take_nil];exact Nat.zero_le _
 | r::j,[],i=>by rw[List.take_nil];cases i<;>exact Nat.zero_le _
 | r::j,b::bs,0=>Nat.zero_le _
 | r::j,b::bs,i+1=>by
  have:=vU j bs i
  show(r++(b++dX (j.take i) (bs.take i))).length≤(r++(b++dX j bs)).length
  simp only[gc]
  omega
noncomputable def QD(K:PySem.W.Frag):List V→Hp→VK→Prop:=fun xs H Q=>∃p ys,xs=[V.ref p]∧(bZ K H p ys∨cR K H p ys)∧Q (V.int (ys.length:Nat)) H
end SB
end
section
namespace XL
open PySem PySem.Spec PyProof.Rows L2
structure Vd (n:Nat) (H:Hp) (h:Heap) (e C d:Addr):Prop where
 ex:H e=some (Mf e C d)
 new:n≤e
 tb:∃T fl,MT h e (.ref C) (some d) (.ref T)∧T≠e∧n≤T∧H T=none∧zP h T fl
theorem uK{h:Heap}{T:Addr}{fl v:Value}(D:zP h T fl):∃F ts,h.get? T=some F∧F.data=.fields ts∧3<ts.size∧(∀b,b≠T→(h.update T (Obj.mapFields (·.setIfInBounds 3 v))).get? b=h.get? b)∧zP (h.update T (Obj.mapFields (·.setIfInBounds 3 v))) T v:=by
 obtain⟨F,ts,D,j,G⟩:=D
 have z:3<ts.size:=(Array.getElem?_eq_some_iff.mp G).1
 refine⟨F,ts,D,j,z,fun b L=>Heap.get?_update_other _ _ (Ne.symm L),?_⟩
 have J:=Heap.get?_update_self (Obj.mapFields (·.setIfInBounds 3 v)) D (Obj.isFreed_of_fields (Obj.data_mapFields j _))
 exact⟨_,_,J,Obj.data_mapFields j _,by simp[z]⟩
section
variable {P:Program} {w:World} {K:PySem.W.Frag} {mg:Str→Option Value} {base:Heap} {N:List Str} {qual:Str} {scope:Scope} {f:Addr} {cd:Value} {A:Around} {outer:List Env} {s0:Shared} {H0:Hp} {E:XK}
 {pins:List (Addr×Obj)} {σ:L2.St} {H:Hp} {s:Shared} {e C d:Addr}
theorem Qk{h':Heap}(I:Inv (eU (aW P w) P w K mg base N qual scope f cd A outer s0 H0 E) pins σ H { s with heap:=h' })(F:zW s0.heap.objs.size H h' e C d)(j:E (.ref C) (some d) H) :
  aW P w outer H0 s0 E (.ref e) { s with heap:=h' }:=⟨e,C,d,H,rfl,I.os,I.bare,I.base,I.hok,F,j⟩
theorem za{hd:Value}{b:Bool}{Y:Value→Shared→Prop}(I:Inv (eU (aW P w) P w K mg base N qual scope f cd A outer s0 H0 E) pins σ H s)(F:zW s0.heap.objs.size H s.heap e C d)(hE:E (.ref C) (some d) H) :
  wpAny (model P w) (A.deeper (envOfC qual scope s0.heap.objs.size f cd)) (do let a ←frameOf (envOfC qual scope s0.heap.objs.size f cd);let pl ←entryPlaceOf s0.heap.objs.size b;let x ←EntryCells.newEntry hd a .none (rawInt s0.heap.objs.size) .none pl;setField (.ref e) 1 x)
   (fun _ s'=>wpAny (model P w) (A.deeper (envOfC qual scope s0.heap.objs.size f cd)) (setFlight (.ref e) none) (fun _ U=>aW P w outer H0 s0 E (.ref e) U) Y s') Y s:=by
 have J:=I.ok.frames
 have G:=I.stack
 have sub:=I.jc
 obtain⟨as,g1,g2,g3,g4,g5,g6⟩:=F.ground (frs (envOfC qual scope s0.heap.objs.size f cd::outer)) sub
 have hn:s0.heap.objs.size≤s.heap.objs.size:=I.sz
 obtain⟨tb,hx,_⟩:=g5
 refine uN (L:=s0.heap.objs.size) J (PySem.W.funFrames_hide G fun env he b j=>g1 b (List.mem_filterMap.mpr ⟨env,he,j⟩)) rfl hx (fun b o q=>PySem.W.of_hideAll _ q) (PySem.W.hideAll_none _ g2) fun h1 S1=>?_
 refine l_ (s:={ s with heap:=h1 }) S1 fun h' S=>?_
 have Z:∀b∈frs outer,b∈frs (envOfC qual scope s0.heap.objs.size f cd::outer):=fun b j=>by
  unfold frs at j ⊢
  rw[List.filterMap_cons]
  exact am _ j
 refine⟨e,C,d,H,rfl,I.os,I.bare,?_,kE I.hok F.ex g3 S,F.wA I.hok hn S,hE⟩
 refine tW (l:=envOfC qual scope s0.heap.objs.size f cd::outer) I.base S (fun b j o vs ho hd=>?_) (fun b o q j=>?_) fun b j=>?_
 ·obtain⟨_,o',D,O⟩:=G.mem (Z b j)
  rw[ho]at D
  cases D
  exact O vs hd
 ·rcases g4 b j with z | z
  ·unfold frs at z
   rw[List.filterMap_cons]at z
   rcases hU.mp z with z | z
   ·exact absurd (Heap.lt_size q) (by rw[z];exact Nat.lt_irrefl _)
   ·exact z
  ·exact absurd (Heap.lt_size q) (Nat.not_lt.mpr z)
 ·obtain⟨_,o',D,_⟩:=S.fr.mem (Z b j)
  exact⟨o',D⟩
theorem Tw{X:Cx}{T:Addr}{fl:Value}(I:Inv X [] σ H s)(F:X.pn=[])(O:X.s_0.heap.objs.size≤T)(U:H T=none)(D:zP s.heap T fl):T≠X.env.locals∧(∀x c,X.env.cells.lookup x=some c→c≠T)∧∀p∈X.pn++([]:List (Addr×Obj)),p.1≠T:=by
 obtain⟨o,vs,G,hd,_⟩:=D
 refine⟨fun y=>?_,fun x c L y=>?_,fun p J=>?_⟩
 ·obtain⟨S,⟨o',es,ep,j,z,_⟩,_⟩:=I.loc
  rw[←y,G]at j
  cases j
  rw[hd]at z
  cases z
 ·obtain⟨v,o',j,z⟩:=I.cell x c L
  rw[y,G]at j
  cases j
  rw[hd]at z
  cases z
 ·rw[F]at J
  cases J
theorem Bt(I:Inv (eU (aW P w) P w K mg base N qual scope f cd A outer s0 H0 E) [] σ H s)(F:Vd s0.heap.objs.size H s.heap e C d)(hE:E (.ref C) (some d) H) :
  (eU (aW P w) P w K mg base N qual scope f cd A outer s0 H0 E).xe (.ref e) s:=by
 obtain⟨hex,aa,T,fl,hx,U,O,hT,L⟩:=F
 obtain⟨oT,ts,z,D,S,Y,gT⟩:=uK (v:=.none) L
 obtain⟨q1,q2,q3⟩:=Tw I rfl O hT L
 have I':=I.turned (t':=s.toks) (h':=s.heap.update T (Obj.mapFields (·.setIfInBounds 3 .none))) (fun b o hb e=>(Y b hb).trans e) hT q1 (.inr O) q2 q3
 obtain⟨oe,vs,he,hc,ac,j,h1⟩:=hx
 have F':zW s0.heap.objs.size H (s.heap.update T (Obj.mapFields (·.setIfInBounds 3 .none))) e C d:=⟨hex,aa,.ref T,⟨oe,vs,(Y e (Ne.symm U)).trans he,hc,ac,j,h1⟩,.inr ⟨T,rfl,U,O,hT,gT⟩⟩
 obtain⟨ae,af,J,G,h3⟩:=L
 rw[z]at J
 cases J
 rw[D]at G
 cases G
 show wpAny (model P w) (A.deeper (envOfC qual scope s0.heap.objs.size f cd)) (leaving (envOfC qual scope s0.heap.objs.size f cd) (.ref e)) _ _ s
 unfold leaving
 refine wpAny_bind ?_
 unfold noteFrame
 have hf:(envOfC qual scope s0.heap.objs.size f cd).frame=some s0.heap.objs.size:=rfl
 simp only[hf]
 refine wpAny_bind (wpAny_field he j h1 ?_)
 rw[j4 (show(Value.ref T != Value.none)=true from by simp)]
 refine wpAny_bind (wpAny_field z D h3 ?_)
 by_cases Z:(fl==rawInt s0.heap.objs.size)=true
 ·rw[j4 Z]
  refine wpAny_pure ?_
  unfold setFlight
  refine wpAny_bind (wpAny_field he j h1 ?_)
  rw[j4 (show(Value.ref T != Value.none)=true from by simp)]
  exact wpAny_setField z D S (Qk I' F' hE)
 ·rw[js Z]
  refine wpAny_bind (wpAny_setField z D S ?_)
  exact za (s:={ s with heap:=s.heap.update T (Obj.mapFields (·.setIfInBounds 3 .none)) }) I' F' hE
end
end XL
end
section
namespace XL
open PySem PySem.Spec PyProof.Rows L2
noncomputable abbrev dj(X:Cx)(E:Value→Shared→Prop):Cx:={ X with xe:=E }
theorem G7{X:Cx}{pins:List (Addr×Obj)}{σ:L2.St}{H:Hp}{s:Shared}{E:Value→Shared→Prop}(I:Inv X pins σ H s):Inv (dj X E) pins σ H s :=
 ⟨⟨I.ok.mod,I.ok.kind,I.ok.glob,I.ok.blt,I.ok.above,I.ok.inj,I.ok.has,I.ok.cab,I.ok.hd,I.ok.frames,I.ok.stk,I.ok.exf,I.ok.bs,I.ok.bsz,I.ok.noex,I.ok.exfs,I.ok.nQ,I.ok.frf⟩,I.os,I.bare,I.base,I.loc,I.cell,I.free,I.freeC,I.pin,I.hok,I.len⟩
theorem Bk{x:Value}{a b:Env}(h:a.frame=b.frame):noteFrame x a=noteFrame x b:=by
 unfold noteFrame PySem.frameOf
 rw[h]
noncomputable def tR(X:Cx)(E:XK):Prop:=X.pn=[]∧(∃env outer L,X.stack=env::outer∧X.env.frame=env.frame∧env.frame=some L)∧∀(σ:L2.St)(H:Hp)(s:Shared)(e C d:Addr),Inv X [] σ H s→Vd X.s_0.heap.objs.size H s.heap e C d→E (.ref C) (some d) H→X.xe (.ref e) s
theorem z6{P:Program}{w:World}{K:PySem.W.Frag}{mg:Str→Option Value}{base:Heap}{N:List Str}{qual:Str}{scope:Scope}{f:Addr}{cd:Value}{A:Around}{outer:List Env}{s0:Shared}{H0:Hp}{E:XK} :
  tR (eU (aW P w) P w K mg base N qual scope f cd A outer s0 H0 E) E:=⟨rfl,⟨_,_,_,rfl,rfl,rfl⟩,fun σ H s e C d I F j=>Bt I F j⟩
theorem P0{X:Cx}{pins:List (Addr×Obj)}{σ:L2.St}{H:Hp}{s:Shared}(I:Inv X pins σ H s):Inv X [] σ H s:=I.wZ fun p j=>I.pin p (List.mem_append_left _ (by simpa using j))
theorem B_{X:Cx}{E:XK}{pins:List (Addr×Obj)}{σ:L2.St}{H3:Hp}{j:Shared}{scope:Scope}{ce:Env}{fp:List Addr}{use:Option (Value→Sem Unit)}{Qf:Value→Shared→Prop}{D:Value}(hX:tR X E)(I3:Inv X pins σ H3 j)(cL:ce.locals=j.heap.objs.size)(cf:ce.frame=X.env.frame)(f3:∀b∈fp,mZ X pins H3 b∧b<j.heap.objs.size) :
  Throws (dj (X.blk j H3 scope ce fp) (notedBy (model X.prog X.w) X.A ce fun e s'=>compPost (model X.prog X.w) X.A X.xe use Qf D j.heap.objs.size (.error e) s')) E:=by
 intro qs τ H s m e C d I hm hp F hE
 obtain⟨a5,⟨env,outer,L,G,aS,hf⟩,hX⟩:=hX
 have ay:X.A.frames=some (env::outer):=by rw[←G];exact I.ok.frames
 have ai:s.heap.FunFrames X.base (env::outer):=by rw[←G];exact I.stack
 have sub:∀b∈frs (env::outer),H b=none:=by rw[←G];exact I.jc
 obtain⟨as,g1,g2,g3,g4,g5,g6⟩:=F.ground (frs (env::outer)) sub
 show wpAny (model X.prog X.w) X.A (noteFrame (.ref e) ce) _ _ s
 rw[Bk (cf.trans aS)]
 refine xn (L:=L) ay (PySem.W.funFrames_hide ai fun env he b O=>g1 b (List.mem_filterMap.mpr ⟨env,he,O⟩)) hf g5 (fun b o q=>PySem.W.of_hideAll _ q) (PySem.W.hideAll_none _ g2) fun h1 S=>?_
 have I1:=km (X:=dj (X.blk j H3 scope ce fp) _) I F hm hp g3 (by show ∀b∈as,b∈frs X.stack∨m≤b;rw[G];exact g4) (by show ∀b∈as,b=e∨b∈frs X.stack∨_;rw[G];exact g6) (by show M_ _ X.stack _ _ _ _ _ _;rw[G];exact S)
 obtain⟨mm,aa,_⟩:=I1.loc
 have aa:h1.Ns ce.locals mm:=aa
 have U:h1.Ns j.heap.objs.size mm:=by rw[←cL];exact aa
 refine⟨mm,U,fun h2 sb Y a6=>?_⟩
 have IX:Inv X pins σ H { s with heap:=h1 }:=I3.call' (ch:=fp) I1.os I1.base I1.hok I1.bare fun b O=>⟨(f3 b O).1.2.2.2.1,(f3 b O).1.2.1,(f3 b O).1.2.2.2.2.1,(f3 b O).1.2.2.2.2.2⟩
 have nC:H j.heap.objs.size=none:=by
  have z:H ce.locals=none:=I1.free
  rw[cL]at z
  exact z
 have fC:=I3.zr (H':=H) (b:=j.heap.objs.size) (f' _) nC
 obtain⟨f0,f1,f2,f4,f5,f6⟩:=fC
 have IY:Inv X pins σ H { s with heap:=h2 }:=IX.turned (t':=s.toks) (fun b o O q=>(sb.2 b O).trans q) f0 f1 f4 f5 f6
 obtain⟨T,⟨oe,vs,he,hc,aI,J,ae⟩,al,a9,ah,Z⟩:=S.ex
 have af:j.heap.objs.size≤m:=hm
 have ag:m≤s.heap.objs.size:=by
  have h1:=F.new
  obtain⟨a7,a8,a0,_⟩:=F.tb.choose_spec.1
  exact iq h1 (Nat.le_of_lt (Heap.lt_size a0))
 have nT:H T=none:=I.hok.fresh Z
 have a4:e≠j.heap.objs.size:=fun z=>by have:=F.ex;rw[z,nC]at this;cases this
 have aC:T≠j.heap.objs.size:=fun z=>by
  obtain⟨o,ts,ho,hd,_⟩:=ah
  obtain⟨o',es,ep,av,ax,_⟩:=U
  rw[←z,ho]at av
  cases av
  rw[hd]at ax
  cases ax
 have ac:h2.get? e=some oe:=(sb.2 e a4).trans he
 have aw:zP h2 T (rawInt L):=by
  obtain⟨o,ts,ho,hd,h3⟩:=ah
  exact⟨o,ts,(sb.2 T aC).trans ho,hd,h3⟩
 obtain⟨oT,ts,aT,a3,aE,ar,gT⟩:=uK (v:=Y.frame.elim .none fun f=>rawInt f) aw
 have fT:=I3.zr (H':=H) (b:=T) (iq af (iq ag Z)) nT
 obtain⟨w0,w1,w2,w3,w4,w5⟩:=fT
 have IZ:=IY.turned (t':=s.toks) (h':=h2.update T (Obj.mapFields (·.setIfInBounds 3 (Y.frame.elim .none fun f=>rawInt f)))) (fun b o O q=>(ar b O).trans q) w0 w1 w3 w4 w5
 unfold PySem.passOn
 refine wpAny_bind (wpAny_field (s:={ s with heap:=h2 }) ac J ae ?_)
 rw[js (show ¬((Value.ref T==Value.none)=true)from by simp)]
 refine wpAny_bind ?_
 unfold setFlight
 refine wpAny_bind (wpAny_field (s:={ s with heap:=h2 }) ac J ae ?_)
 rw[j4 (show(Value.ref T != Value.none)=true from by simp)]
 refine wpAny_setField (s:={ s with heap:=h2 }) aT a3 aE ?_
 refine wpAny_throw ?_
 have sX:X.s_0.heap.objs.size≤j.heap.objs.size:=I3.sz
 exact hX σ H _ e C d (P0 IZ) ⟨F.ex,iq sX (iq af F.new),T,_,⟨oe,vs,(ar e (Ne.symm al)).trans ac,hc,aI,J,ae⟩,al,iq sX (iq af (iq ag Z)),nT,gT⟩ hE
end XL
end
section
namespace XL
open PySem PySem.Spec PyProof.Rows L2
section
variable {X:Cx}
theorem Q6{α:Type}{t:Sem α}{Q j:α→Shared→Prop}{M:Model}{A:Around}{E D:Value→Shared→Prop}{s:Shared}(e:D=E)(h:wpAny M A t Q E s)(F:∀a s,Q a s→j a s):wpAny M A t j D s:=wpAny_mono h F fun _ _ z=>by rw[e];exact z
theorem Lj{Ex:XK}{pins:List (Addr×Obj)}{s:Shared}{σ:L2.St}{H:Hp}{Q:VK}{elt tg iter:Expr}{L:List Expr}{scope:Scope}{own:List (Str×Nat)}{pos pos':Pos}{wi:TI}{g:TG}{tt:TT}{te:TE}{use:Option (Value→Sem Unit)}{Qf:Value→Shared→Prop}
  (hX:tR X Ex) (hc:X.calm=true) (hN:X.N.Nodup) (I:Inv X pins σ H s) (hi:PI X tg iter wi) (ok:wg X.N X.env.scope scope own)
  (hg:∀(s:Shared)(H:Hp)(C:Addr)(cl:List (Str×Addr))(fp:List Addr)(xe:Value→Shared→Prop),PG (dj (X.blk s H scope (compEnvC scope cl C X.env) fp) xe) tg g) (ht:∀(s:Shared)(H:Hp)(C:Addr)(cl:List (Str×Addr))(fp:List Addr)(xe:Value→Shared→Prop),Tp (dj (X.blk s H scope (compEnvC scope cl C X.env) fp) xe) L tt)
  (he:∀(s:Shared)(H:Hp)(C:Addr)(cl:List (Str×Addr))(fp:List Addr)(xe:Value→Shared→Prop),Throws (dj (X.blk s H scope (compEnvC scope cl C X.env) fp) xe) Ex→PE (dj (X.blk s H scope (compEnvC scope cl C X.env) fp) xe) elt te) (hs:∀x,foldedSetIterable iter X.env x=pure x)
  (h:T5 wi g tt te (own.map (·.2)) σ H Q)
  (aI:∀D C s' m H',Inv X pins σ H' s'→Q (.ref D) H'→s'.heap.Ns C m→mZ X pins H' C→compPost (model X.prog X.w) X.A X.xe use Qf (.ref D) C (.ok .next) s') :
  wpAny (model X.prog X.w) X.A (comprehension (.ListComp elt [⟨tg,iter,L,0⟩] scope pos) scope X.env pos' (newList []) false (eval iter X.env) use) Qf X.xe s:=by
 have ae:∀y∈scope.names,y.2=.free→∃c,X.env.cells.lookup y.1=some c:=fun y hy e=>by
  rcases ok.free y hy e with k | k
  ·exact I.ok.has _ (.inl k)
  ·exact I.ok.has _ (.inr k)
 refine wpAny_comprehension_free (use:=use) rfl hs (uP ae) ok.kind (fun y hy e=>by rw[ok.uniq y hy,e])
  (cG (hi pins s σ H _ I h) fun xv s1 hx=>cG hx fun a9 s2 h2=>?_)
 obtain⟨it,fp,tn,J,H2,e,I2,T,aw,f2,q⟩:=h2
 subst e
 refine wpAny_newObj_type (qK ?_) (by show 0≤sizeLine;decide)
 generalize hD:s2.heap.objs.size=D
 have aT:H2 D=none:=I2.hok.fresh (Nat.le_of_eq hD)
 obtain⟨W,⟨m0,w0⟩,turn⟩:=q D aT
 generalize ag:({ s2 with heap:=s2.heap.push { cls:=.type "list",data:=.seq ([]:List Value).toArray } }:Shared)=F
 have I3:Inv X pins σ (upd H2 D (.lst [])) F:=by
  rw[←ag]
  refine I2.laid (t':=s2.toks) (fun b o e=>Heap.get?_push_of_some _ e) (Nat.le_of_eq hD) ⟨Nat.zero_le _,[],0,.nil,?_⟩
  rw[←hD]
  exact Heap.get?_push_size _ rfl
 have h3:F.heap=s2.heap.push { cls:=.type "list",data:=.seq ([]:List Value).toArray }:=by rw[←ag]
 have sz:∀b∈fp,b<s2.heap.objs.size:=fun b G=>by
  obtain⟨o,e,_⟩:=T.obj _ _ aw b G
  exact Heap.lt_size e
 have Z:∀b∈fp,mZ X pins (upd H2 D (.lst [])) b∧b<F.heap.objs.size:=fun b G=>by
  have ax:=sz b G
  refine⟨⟨?_,(f2 b G).2⟩,by rw[h3,Heap.size_push];exact Nat.lt_succ_of_lt ax⟩
  rw[az (by rw[←hD];exact i4 ax)]
  exact(f2 b G).1
 have aC:tn 0 F.heap:=T.keep _ _ _ aw fun b _ o e=>by rw[h3];exact Heap.get?_push_of_some _ e
 have I4:=qW I3 ok hN Z
 generalize a7:cellsFrom (F.heap.objs.size+1) scope.names (bV X.env.cells scope.names [])=cl at I4 ⊢
 show codeAny _ _ (.compStart (.ListComp elt [⟨tg,iter,L,0⟩] scope pos) 0 (.ref it) (.ref D) (compEnvC scope cl F.heap.objs.size X.env)) (compPost (model X.prog X.w) X.A X.xe use Qf (.ref D) F.heap.objs.size) { F with heap:=pushCells (F.heap.push { cls:=.type "dict",data:=.dict #[] }) scope.names }
 have af:∀b∈fp,(upd H2 D (.lst [])) b=none:=fun b G=>(Z b G).1.1
 generalize S:compEnvC scope cl F.heap.objs.size X.env=ce at I4 ⊢
 have cf:ce.frame=X.env.frame:=by subst S;rfl
 have cL:ce.locals=F.heap.objs.size:=by subst S;rfl
 generalize a6:upd H2 D (.lst [])=H3 at I3 I4 w0 af Z
 generalize U:(notedBy (model X.prog X.w) X.A ce fun e s'=>compPost (model X.prog X.w) X.A X.xe use Qf (.ref D) F.heap.objs.size (.error e) s')=xe
 have th:Throws (dj (X.blk F H3 scope ce fp) xe) Ex:=by rw[←U];exact B_ hX I3 cL cf Z
 have pg:PG (dj (X.blk F H3 scope ce fp) xe) tg g:=by rw[←S];exact hg F H3 F.heap.objs.size cl fp xe
 have pt:Tp (dj (X.blk F H3 scope ce fp) xe) L tt:=by rw[←S];exact ht F H3 F.heap.objs.size cl fp xe
 have pe:PE (dj (X.blk F H3 scope ce fp) xe) elt te:=by subst S;exact he F H3 F.heap.objs.size cl fp xe th
 have I4:=G7 (E:=xe) I4
 generalize a0:({ F with heap:=pushCells (F.heap.push { cls:=.type "dict",data:=.dict #[] }) scope.names }:Shared)=s4 at I4 ⊢
 have ah:tn 0 s4.heap:=T.keep _ _ _ aC fun b _ o e=>by rw[←a0];exact pushCells_keeps _ _ _ _ (Heap.get?_push_of_some _ e)
 have O:∀{σ':L2.St}{H':Hp}{s':Shared},Inv (dj (X.blk F H3 scope ce fp) xe) [] σ' H' s'→(∀b∈fp,H' b=none)→∀b∈fp,mZ (dj (X.blk F H3 scope ce fp) xe) [] H' b:=fun{σ' H' s'} I' hn b G =>
  ⟨hn b G,(I'.ok.exf b G).1,I'.ok.exfs b G,.inl G,fun x c e=>(I'.ok.exf b G).2 x c e,fun p hp=>absurd (show p∈([]:List (Addr×Obj))++[]from hp) (by simp)⟩
 have aa:codeAny (model X.prog X.w) X.A (.compLoop (.ListComp elt [⟨tg,iter,L,0⟩] scope pos) 0 (.ref it) (.ref D) ce) (compPost (model X.prog X.w) X.A X.xe use Qf (.ref D) F.heap.objs.size) s4:=by
  refine o_ (fun n s'=>∃i H',Inv (dj (X.blk F H3 scope ce fp) xe) [] (wipe σ (own.map (·.2))) H' s'∧tn i s'.heap∧(∀b∈fp,H' b=none)∧W i n H') ?_ m0 ⟨0,H3,I4,ah,af,w0⟩
  rintro n s5 ⟨i,H5,I5,al,n5,w5⟩
  rcases turn i n H5 w5 with⟨stop,qq⟩ | ⟨go,Nx,a3,step⟩
  ·have td:=T.done (dj (X.blk F H3 scope ce fp) xe) rfl rfl rfl hc i [] s5 _ H5 (fun _ _=>False) I5 (O I5 n5) al stop
   refine wz td fun r s6 ⟨hr,I6⟩=>?_
   subst hr
   have I7:Inv X pins σ H5 s6:=I3.call' (ch:=fp) I6.os I6.base I6.hok I6.bare fun b G=>⟨(Z b G).1.2.2.2.1,(Z b G).1.2.1,(Z b G).1.2.2.2.2.1,(Z b G).1.2.2.2.2.2⟩
   have nC:H5 F.heap.objs.size=none:=by
    have z:H5 ce.locals=none:=I6.free
    rw[cL]at z
    exact z
   obtain⟨m,hn,_⟩:=I6.loc
   have hn:s6.heap.Ns ce.locals m:=hn
   rw[cL]at hn
   exact aI D F.heap.objs.size s6 m H5 I7 qq hn (I3.zr (f' _) nC)
  ·have ti:=T.item (dj (X.blk F H3 scope ce fp) xe) rfl rfl rfl hc i [] s5 _ H5 (fun _ _=>False) I5 (O I5 n5) al go
   refine wz ti fun r s6 ⟨u,hr,h6⟩=>?_
   subst hr
   refine wz h6 fun _ s7 hz=>?_
   obtain⟨x,H7,I7,r7,y7,ac,n7⟩:=hz
   have a4:=I7.pinned (O I7 n7) (T.obj _ _ ac)
   refine Q6 U (pg _ s7 _ H7 x u _ a4 r7 (step x H7 y7)) fun _ s8 ⟨σ8,H8,I8,ai,q8⟩=>?_
   refine Q6 U (pt _ s8 σ8 H8 _ I8 q8) fun b s9 ⟨H9,I9,q9⟩=>?_
   have fin:∀{s':Shared}{H':Hp},Inv (dj (X.blk F H3 scope ce fp) xe) ([]++pY fp s7.heap) σ8 H' s'→Nx H'→∃m,m<n∧∃i H',Inv (dj (X.blk F H3 scope ce fp) xe) [] (wipe σ (own.map (·.2))) H' s'∧tn i s'.heap∧(∀b∈fp,H' b=none)∧W i m H':=fun{s' H'} I' nx=>by
    obtain⟨m',hm,w'⟩:=a3 H' nx
    have Y:∀b∈fp,∀o,s7.heap.get? b=some o→s'.heap.get? b=some o∧H' b=none:=fun b G o e =>
     let z:=I'.pin (b,o) (List.mem_append_right _ (List.mem_append_right _ (jm G e)))
     ⟨z.1,z.2.1⟩
    have hl:(wipe σ (own.map (·.2))).length=σ8.length:=by rw[←ai,gO]
    refine⟨m',hm,i+1,H',(I'.jN (pins:=[])).weak hl (fun j v e=>?_),T.keep _ _ _ ac fun b G o e=>(Y b G o e).1,fun b G=>?_,w'⟩
    ·rw[←ai]at e
     exact(lF e).1
    ·obtain⟨o,e,_⟩:=T.obj _ _ ac b G
     exact(Y b G o e).2
   cases b with
   | false =>
    simp only[Bool.false_eq_true,if_false]at q9 ⊢
    exact fin I9 q9
   | true =>
    simp only[if_true]at q9 ⊢
    refine Q6 U (pe _ s9 σ8 H9 _ I9 q9) fun z a5 hz=>?_
    obtain⟨yv,a8,aS,ay,acc,av,ar,nx⟩:=hz
    exact MF (X:=dj (X.blk F H3 scope ce fp) xe) aS av ar ay fun ba aE=>fin aE nx
 exact codeAny_compStart_list aa (T.self X.A 0 _ _ _ ah aa)
theorem Gj{Ex:XK}{i:Nat}{y:Str}{py:Pos}{elt tg iter:Expr}{j:List Expr}{scope:Scope}{own:List (Str×Nat)}{pos F:Pos}{Y:TI}{g:TG}{U:TT}{te:TE}(hX:tR X Ex)(hc:X.calm=true)(Z:X.N.Nodup)(hy:X.N[i]?=some y)(G:X.env.scope.names.lookup y=some .local)
  (J:swapsWith (.ListComp elt [⟨tg,iter,j,0⟩] scope pos) (some (.Name y py)) F.line X.env=pure true) (hi:PI X tg iter Y) (ok:wg X.N X.env.scope scope own)
  (hg:∀(s:Shared)(H:Hp)(C:Addr)(cl:List (Str×Addr))(fp:List Addr)(xe:Value→Shared→Prop),PG (dj (X.blk s H scope (compEnvC scope cl C X.env) fp) xe) tg g) (ht:∀(s:Shared)(H:Hp)(C:Addr)(cl:List (Str×Addr))(fp:List Addr)(xe:Value→Shared→Prop),Tp (dj (X.blk s H scope (compEnvC scope cl C X.env) fp) xe) j U)
  (he:∀(s:Shared)(H:Hp)(C:Addr)(cl:List (Str×Addr))(fp:List Addr)(xe:Value→Shared→Prop),Throws (dj (X.blk s H scope (compEnvC scope cl C X.env) fp) xe) Ex→PE (dj (X.blk s H scope (compEnvC scope cl C X.env) fp) xe) elt te) (hs:∀x,foldedSetIterable iter X.env x=pure x:=by intro _;rfl) :
  PS X (.Assign [.Name y py] (.ListComp elt [⟨tg,iter,j,0⟩] scope pos) F) (Fx (T5 Y g U te (own.map (·.2))) (qQ i)):=by
 intro pins s σ H D I h
 rw[exec_Assign_Name_used _ _ _ _ J]
 refine wpAny_bind (wpAny_standAt (wpAny_bind ?_))
 show wpAny _ X.A (do let _ ←comprehension (.ListComp elt [⟨tg,iter,j,0⟩] scope pos) scope X.env (firstIterPos [⟨tg,iter,j,0⟩] pos) (newList []) false (eval iter X.env) (some (assign (.Name y py) X.env))) _ _ s
 have h:T5 Y g U te (own.map (·.2)) σ H (fun x H1=>qQ i x σ H1 D.nx):=h
 refine wpAny_bind (cG (Lj (Qf:=fun _ s'=>SP X pins D .next s') hX hc Z I hi ok hg ht he hs h fun L C s' m H' I' q hn f=>?_) fun _ s' hq=>wpAny_pure (wpAny_pure hq))
 show wpAny _ _ (assign (.Name y py) X.env (.ref L)) _ _ _
 refine wpAny_assign_Name (vC (v:=V.ref L) I' Z hy (.inl G) rfl (fun s2 I2 ⟨a,sb,ha⟩=>?_) (.inr G))
 obtain⟨f0,f1,f2,f3,f4,f5⟩:=f
 have S:C≠a:=by
  rcases ha with z | z
  ·rw[z];exact f1
  ·exact fun e=>f4 y a z e.symm
 refine⟨m,hn.sameBut sb S,fun h3 O=>?_⟩
 exact⟨_,H',I2.turned (t':=s2.toks) (fun b o hb e=>(O.2 b hb).trans e) f0 f1 f3 f4 f5,q⟩
end
end XL
end
section
namespace SB
open PySem PySem.Spec PyProof.Rows L2 XL
open Vbdeaa (Text Exp Exps Un Bin Ins)
variable {P:Program} {w:World} {K:PySem.W.Frag} {mg:Str→Option Value} {base:Heap}
noncomputable def rW(C Cx:Addr)(h:Nat):Sp:=fun vs H Q E=>∃(a:Addr)(e:Exp)(n:Nat),vs=[.ref a,.int n]∧n≤8∧cF C H e a∧gM e∧e.height≤h∧Vbdeam.size e≤100000∧(MX.Kn n e→MK H Q (Vbdeam.codeOf n e))∧(¬MX.Kn n e→bz Cx (-8) H E)
noncomputable abbrev um:Stmt:=top 43
section
theorem eZ:aK ["node","n","rows","own","whole","row","behind","part"] ["node","n"] (aD um):=⟨rfl,rfl,rfl,by decide +kernel,rfl,by decide +kernel,by decide +kernel⟩
theorem K7{f C Cx fO:Addr}{fd dO:FuncData}(F:Fn K mg "instructions_of" um f fd ["node","n"])(N:v_ K C)(T:CP K mg)(bq:mg "zip"=none)(FO:Fn K mg "own_instructions" JN fO dO ["node","sizes","n"])(GO:aF P w K mg base (aW P w) 6 fO dO ["node","sizes","n"] (Jc C Cx)) :
  ∀h:Nat,aF P w K mg base (aW P w) (h+7) f fd ["node","n"] (rW C Cx h):=by
 intro h
 induction h with
 | zero =>
  refine dZ F.F eZ (fun vs H Q E h=>?_) (fun cdv A outer s H vs Q E hr h=>?_)
  ·obtain⟨_,_,_,rfl,_⟩:=h
   rfl
  ·obtain⟨a,e,n,rfl,_,hn,_,hh,k⟩:=h
   have:0<e.height:=by rw[vQ];omega
   omega
 | succ h ih =>
  refine dZ F.F eZ (fun vs H Q E h=>?_) (fun cdv A outer s H vs Q E hr h=>?_)
  ·obtain⟨_,_,_,rfl,_⟩:=h
   rfl
  ·obtain⟨a,e,n,rfl,bd,hn,bx,hh,hsz,k,kr⟩:=h
   obtain⟨dx,D,l,as,h1,hD,hl,hp⟩:=oX hn
   have cm:bH 6 _:=hr.mono (by omega)
   have cw:=Lk e
   refine⟨_,aq (Gj (Ex:=E) (i:=2) (own:=[("part",7)]) (te:=qC (rW C Cx h) [] E (aZ (pP 7) (aZ (pP 1) cZ))) z6 rfl eZ.nd rfl rfl (Np rfl rfl rfl rfl) (jj (aJ (pv 0) rfl)) (iY (by kernel_rfl))
     (fun _ _ _ _ _ _=>by exact cX (i:=7) eZ.nd rfl (Or.inl rfl)) (fun _ _ _ _ _ _=>by exact lJ)
     (fun _ _ _ _ _ _ th=>by exact a_ ih hr rfl F.m F.F.kp F.b .nil th.passes (aj (pv 7) (aj (pv 1) au))))
    (aq (bw (i:=3) eZ.nd rfl (Or.inl rfl) (a_ GO cm rfl FO.m FO.F.kp FO.b .nil passes (aj (pv 0) (aj (yO (own:=[("row",5)]) (te:=Qy (QD K) (aZ (pP 5) cZ)) rfl eZ.nd (jj (pv 2)) (iY (by kernel_rfl))
      (fun _ _ _ _ _=>by exact cX (i:=5) eZ.nd rfl (Or.inl rfl)) (fun _ _ _ _ _=>by exact lJ)
      (fun _ _ _ _ _=>by exact bW (r:=QD K) (id:="len") bG (by rfl) T.len (by decide +kernel) (aj (pv 5) au))) (aj (pv 1) au)))))
    (aq (bw (i:=4) eZ.nd rfl (Or.inl rfl) (iJ xT (by rfl) T.list (by decide +kernel) (aj (b7 di (pv 3) aB (fun _ _=>rfl)) au)))
    (aq (uq rC rfl (Rx rfl bq (aj (pv 2) (aj (jZ rY (pv 3) (gU aB) Dv) au)))
     (Kh rfl (iI (cX (i:=5) eZ.nd rfl (Or.inl rfl)) (iI (cX (i:=6) eZ.nd rfl (Or.inl rfl)) Dz)))
     (aq (aN (gC PySem.F.plainAttrs_list PySem.F.slot_list_extend PySem.F.type_list_extend vL (pv 4) (aj (pv 5) au)))
      (ao (aN (gC PySem.F.plainAttrs_list PySem.F.slot_list_extend PySem.F.type_list_extend vL (pv 4) (aj (pv 6) au))))))
    (ao (aV (pv 4)))))),?_⟩
   refine⟨_,rfl,a,C,dx,_,_,rfl,h1,N.cl,N.nP,rfl,l,rfl,⟨_,bZ.of hl⟩,fun L hL=>?_⟩
   refine lV (K:=K) (a:=l) (xs:=as.map V.ref) (fun i H'=>aA H H'∧(∀x∈(kids e).take i,MX.Kn n x)∧∃ps:List Addr,H' L=some (.lst (ps.map V.ref))∧Paired (fun kd p=>p≠L∧dz H' (Vbdeam.codeOf n kd) p) ((kids e).take i) ps) ⟨aA.upd hL,fun x hx=>by simp at hx,[],ak,.nil⟩ (fun i H' _ ⟨s1,_⟩=>bZ.of (s1 _ _ hl)) ?_ ?_
   ·rintro i y H' hi ⟨s1,ah,ps,U,aa⟩
    obtain⟨b,hb,rfl⟩:=oU hi
    obtain⟨kd,J,cj⟩:=Bu hp hb
    have ar:=j' J
    have cq:i<(kids e).length:=(hZ.mp J).1
    have cc:ps.length=i:=by
     rw[←Paired.length aa,ij]
     omega
    refine⟨rfl,_,rfl,_,rfl,b,kd,n,rfl,bd,cj.same s1,bx.kid ar,by have:=qO ar;omega,by have:=Ln ar;omega,fun a5 pl ts H2 Z s2 bv G cx=>?_,fun a5=>(kr fun z=>a5 (((xr n e).mp z).2 kd ar)).mono s1⟩
    have bR:pl≠L:=fun z=>by rw[z,U]at Z;cases Z
    have aT:=s2 _ _ U
    refine⟨_,aT,?_,?_,?_,ps++[pl],?_,?_⟩
    ·rw[ap,cc]
     exact ic (by omega:i<100000) (by decide)
    ·intro b o q
     rw[az (aH q hL)]
     exact s2 _ _ (s1 _ _ q)
    ·intro x hx
     rw[List.take_succ,J]at hx
     rcases List.mem_append.mp hx with hx | hx
     ·exact ah x hx
     ·obtain rfl:=List.mem_singleton.mp hx
      exact a5
    ·rw[ak,kb]
     rfl
    ·rw[List.take_succ,J]
     have sx:bC L H2 (L2.upd H2 L (.lst (ps.map V.ref++[V.ref pl]))):=bC.wk fun _ _ q _=>q
     refine cu (cP aa fun t p _ ⟨q1,q2⟩=>⟨q1,(q2.same s2).oG aT q1 sx⟩) ⟨bR,dz.oG aT bR sx ⟨ts,bv,G⟩⟩
   rintro H2 ⟨s1,ah,ps,U,aC⟩
   rw[ap,←Paired.length hp,List.take_length]at aC ah
   have aa:Paired (fun kd p=>dz H2 (Vbdeam.codeOf n kd) p) (kids e) ps:=cP aC fun _ _ _ q=>q.2
   have Z:ps.length=(kids e).length:=(Paired.length aa).symm
   refine⟨_,rfl,_,rfl,L,rfl,⟨_,bZ.of U⟩,fun S hS=>?_⟩
   refine lV (K:=K) (a:=L) (xs:=ps.map V.ref) (fun i H'=>aA H2 H'∧H' S=some (.lst (((lens n e).take i).map fun(x:Nat)=>V.int x))) ⟨aA.upd hS,ak⟩ (fun i H' _ ⟨s2,_⟩=>bZ.of (s2 _ _ U)) ?_ ?_
   ·rintro i y H' hi ⟨s2,af⟩
    obtain⟨p,cf,rfl⟩:=oU hi
    obtain⟨kd,J,ts,cv,G⟩:=Bu aa cf
    have cq:i<(kids e).length:=(hZ.mp J).1
    refine⟨rfl,_,rfl,p,_,rfl,.inl (bZ.of (s2 _ _ cv)),_,af,?_,?_,?_⟩
    ·rw[ap,ij]
     exact iO (Nat.min_le_left _ _) (ic (by omega:i<100000) (by decide))
    ·intro b o q
     rw[az (aH q hS)]
     exact s2 _ _ q
    ·rw[ak]
     have e1:(lens n e)[i]?=some ts.length:=by unfold lens;rw[iE,J,oR G];rfl
     rw[List.take_succ,e1,ap,kb]
     rfl
   rintro H3 ⟨s2,af⟩
   have b5:(lens n e).length=(kids e).length:=by unfold lens;rw[ap]
   rw[ap,Z,←b5,List.take_length]at af
   have aS:=s1.trans s2
   refine⟨_,rfl,a,S,e,lens n e,n,rfl,bd,hn.same aS,bx.top,af,b5,by omega,fun a0 lo H4 cy s3 ⟨ls,aw,bp⟩=>?_,fun a0=>(kr fun z=>a0 ((xr n e).mp z).1).mono aS⟩
   have k:=k ((xr n e).mpr ⟨a0,ah⟩)
   obtain⟨Y,os,bn⟩:∃Y os,Bh n (lens n e) e=Y::os:=by
    cases q:Bh n (lens n e) e with
    | nil=>have:=DP n (lens n e) e;rw[q]at this;cases this
    | cons x r=>exact⟨_,_,rfl⟩
   have ai:os.length=(kids e).length:=by have:=DP n (lens n e) e;rw[bn]at this;simpa using this
   have ac:=Hb n e
   rw[bn]at bp ac
   have ac:Y++dX ((kids e).map (Vbdeam.codeOf n)) os=Vbdeam.codeOf n e:=ac
   have cA:=cU n e
   obtain⟨q0,lr,rfl,⟨av,ca,a6⟩,b3⟩:∃q0 lr,ls=q0::lr∧dz H4 Y q0∧Paired (dz H4) os lr:=by
    cases bp with
    | cons a b=>exact⟨_,_,rfl,a,b⟩
   have bi:lr.length=(kids e).length:=by rw[←Paired.length b3,ai]
   have bS:=aS.trans s3
   refine⟨_,rfl,lo,_,_,_,rfl,rfl,bZ.of aw,at_of (j:=0) rfl rfl,q0,_,rfl,.inl (bZ.of ca),fun O al=>?_⟩
   have s4:aA H4 (L2.upd H4 O (.lst (av.map V.ref))):=aA.upd al
   have ax:H O=none:=same_none bS al
   refine⟨_,rfl,_,rfl,1,rfl,lo,_,rfl,bZ.of (s4 _ _ aw),fun p aI=>?_⟩
   have b2:nW ((q0::lr).map V.ref) (some 1) none=lr.map V.ref:=U4 _ _
   rw[b2]
   have bf:O≠p:=fun z=>by rw[←z,ak]at aI;cases aI
   generalize a3:L2.upd (L2.upd H4 O (.lst (av.map V.ref))) p (.lst (lr.map V.ref))=H5
   have s5:aA H4 H5:=by rw[←a3];exact s4.trans (aA.upd aI)
   have bP:H5 p=some (.lst (lr.map V.ref)):=by rw[←a3];exact ak
   have a4:H5 O=some (.lst (av.map V.ref)):=by rw[←a3,az bf];exact ak
   have bt:aA H2 H5:=(s2.trans s3).trans s5
   have be:=bt _ _ U
   have cn:L≠O:=fun z=>by have:=(s2.trans s3) _ _ U;rw[z,al]at this;cases this
   have a9:(ps.map V.ref).length=(lr.map V.ref).length:=by rw[ap,ap,Z,bi]
   refine⟨L,p,_,_,rfl,bZ.of be,bZ.of bP,Qi (K:=K) (a:=L) (b:=p) (xs:=ps.map V.ref) (ys:=lr.map V.ref) a9
    (fun i σ H'=>∃v5 v6 v7:Option V,σ=[some (.ref a),some (.int n),some (.ref L),some (.ref lo),some (.ref O),v5,v6,v7]∧bC O H5 H'∧∃ts:List Addr,H' O=some (.lst (ts.map V.ref))∧dh H' (Y++dX (((kids e).map (Vbdeam.codeOf n)).take i) (os.take i)) ts)
    ⟨none,none,none,rfl,fun _ _ q _=>q,av,a4,?_⟩ (fun i σ H' _ ⟨_,_,_,_,sx,_⟩=>⟨bZ.of (sx _ _ be cn),bZ.of (sx _ _ bP (Ne.symm bf))⟩) ?_ ?_⟩
   ·have:Y++dX (((kids e).map (Vbdeam.codeOf n)).take 0) (os.take 0)=Y:=by
     show Y++[]=Y
     exact i8 _
    rw[this]
    exact a6.same s5
   ·rintro i x y σ H' Tt hx hy ⟨v5,v6,v7,rfl,sx,ts,hw,G⟩ hT
    obtain⟨pr,ck,rfl⟩:=oU hx
    obtain⟨pb,cp,rfl⟩:=oU hy
    obtain⟨kd,J,b0⟩:=Bu aa ck
    have cb:i<os.length:=by rw[ai];exact(hZ.mp J).1
    obtain⟨ob,bg⟩:∃ob,os[i]?=some ob:=⟨_,ii cb⟩
    obtain⟨cC,ay,bb⟩:=d_ b3 bg
    rw[cp]at ay
    cases ay
    have e1:((kids e).map (Vbdeam.codeOf n))[i]?=some (Vbdeam.codeOf n kd):=by rw[iE,J];rfl
    have step:Y++dX (((kids e).map (Vbdeam.codeOf n)).take (i+1)) (os.take (i+1))=(Y++dX (((kids e).map (Vbdeam.codeOf n)).take i) (os.take i))++Vbdeam.codeOf n kd++ob:=by
     rw[List.take_succ,List.take_succ,e1,bg]
     show Y++dX (_++[_]) (_++[_])=_
     rw[uH _ _ _ _ (by rw[ij,ij,ap,ai])]
     simp only[im]
    have cE:=vU ((kids e).map (Vbdeam.codeOf n)) os (i+1)
    have b4:(Y++dX (((kids e).map (Vbdeam.codeOf n)).take (i+1)) (os.take (i+1))).length≤500000:=by
     have:(Y++dX ((kids e).map (Vbdeam.codeOf n)) os).length≤500000:=by rw[ac];omega
     rw[gc]at this ⊢
     omega
    rw[step,gc,gc]at b4
    have bo:∀{c:Vbdeaa.Code}{q:Addr},dz H4 c q→q≠O:=fun⟨_,z,_⟩=>aH z al
    have ba:dz H5 (Vbdeam.codeOf n kd) pr:=b0.same bt
    have bX:pr≠O:=bo (b0.same (s2.trans s3))
    have aE:pb≠O:=bo bb
    have cB:O≠Tt:=fun z=>by rw[z,hT]at hw;cases hw
    have sT:aA H' (L2.upd H' Tt (.tup [V.ref pr,V.ref pb])):=aA.upd hT
    obtain⟨tr,cg,a7⟩:=(ba.oG a4 bX sx).same sT
    obtain⟨tb,cs,a8⟩:=((bb.same s5).oG a4 aE sx).same sT
    have ae:=sT _ _ hw
    generalize b9:L2.upd H' Tt (.tup [V.ref pr,V.ref pb])=HT at *
    have b6:HT Tt=some (.tup [V.ref pr,V.ref pb]):=by rw[←b9];exact ak
    have l1:=oR G
    have l2:=oR a7
    have l3:=oR a8
    have big:(500000:Nat)≤sizeLine:=by decide
    refine⟨Tt,_,rfl,cR.of b6,rfl,_,_,rfl,_,_,rfl,rfl,?_⟩
    refine⟨_,rfl,.inl ⟨rfl,_,bZ.of ae⟩,_,rfl,O,pr,_,_,rfl,rfl,ae,cg,by rw[ap,ap];omega,?_⟩
    have b1:bC O HT (L2.upd HT O (.lst (ts.map V.ref++tr.map V.ref))):=bC.wk fun _ _ q _=>q
    have bE:=b1 _ _ cs aE
    refine⟨_,rfl,.inl ⟨rfl,_,bZ.of ak⟩,_,rfl,O,pb,_,_,rfl,rfl,ak,bE,by rw[gc,ap,ap,ap];omega,?_⟩
    have ag:bC O HT (L2.upd (L2.upd HT O (.lst (ts.map V.ref++tr.map V.ref))) O (.lst (ts.map V.ref++tr.map V.ref++tb.map V.ref))):=b1.wk
    refine⟨_,_,_,rfl,(bC.trans sx fun c o q _=>sT c o q).trans ag,ts++tr++tb,by rw[ak,kb,kb],?_⟩
    rw[step]
    exact qF (qF ((G.same sT).oG ae ag) (a7.oG ae ag)) (a8.oG ae ag)
   ·rintro σ H' ⟨v5,v6,v7,rfl,sx,ts,hw,G⟩
    refine⟨_,rfl,k O ts H' ax (bC.same ax (bS.trans s5) sx) hw ?_ (JZ hw G)⟩
    rw[ap,Z,show(kids e).length=((kids e).map (Vbdeam.codeOf n)).length by rw[ap],List.take_length,show((kids e).map (Vbdeam.codeOf n)).length=os.length by rw[ap,ai],List.take_length,ac]at G
    exact G
end
end SB
end
section
namespace PySem.SeqAt
open AutoSeq1 (wpAny_loadPart')
open MeetsSeq MeetsSeq2 MeetsSeq3 SeqRoads2
theorem m5(l:Addr)(items:Array Value)(n:Nat)(dd:Option Addr)(sl:Array (Option Value))(x:Value)(e:Value→Bool)(j:Nat)(hj:j<items.size)
  (hit:e items[j]=true) (J:∀m (O:m<items.size),m<j→e items[m]=false) :
  Meets (Builtin.«tuple.index» ⟨[.ref l,x],[]⟩)
   (fun A R s=>s.heap.get? l=some { cls:=.type "tuple",dict:=dd,data:=.seq items n,slots:=sl }∧(∀y,y∈items→EqAt A.in1 s y x (e y))∧R (.ok (.ret (.int j s.toks))) { s with toks:=s.toks+1 }) :=
 .of_wp fun prog w A R s h=>by
  obtain⟨Y,g,d,tk,os⟩:=s;obtain⟨S,Z,h⟩:=h
  unfold Builtin.«tuple.index»
  simp only[Std.Legacy.Range.forIn_eq_forIn_range']
  wp_walk using wpAny_loadPart' S,wpAny_forIn_list _ (fun rest b s'=>b.1=none∧s'=⟨Y,g,d,tk,os⟩∧∃i,i≤j∧rest=(List.range' 0 items.size 1).drop i) _
  case turn =>
   rintro i rest b s' ⟨G,rfl,m,O,hz⟩
   have D:m<(List.range' 0 items.size 1).length:=by rw[List.length_range'];omega
   have z:m<items.size:=by omega
   rw[List.drop_eq_getElem_cons D]at hz
   injection hz with hi F
   have hi:i=m:=by rw[hi];simp
   subst hi
   have U:items[i]?=some items[i]:=by simp[z]
   rw[U]
   refine wpAny_bind (Z _ (Array.getElem_mem z) prog w _ _ ?_)
   by_cases L:i=j
   ·subst L
    rw[hit]
    wp_walk
    exact⟨_,rfl,h⟩
   ·rw[J i z (by omega)]
    wp_walk
    exact⟨rfl,rfl,i+1,by omega,F⟩
  case fin =>
   rintro b s' ⟨G,rfl,m,O,hz⟩
   have D:m<(List.range' 0 items.size 1).length:=by rw[List.length_range'];omega
   rw[List.drop_eq_getElem_cons D]at hz
   cases hz
  case h =>
   refine⟨rfl,rfl,0,Nat.zero_le _,?_⟩
   simp[Std.Legacy.Range.size]
end PySem.SeqAt
namespace L2
open PySem PySem.Spec PyProof.Rows
section
variable {X:Cx}
noncomputable def zT(v u:V):Bool:=fX v&&Mh v u
noncomputable def N6(K:PySem.W.Frag)(neg:Bool):R2:=fun x y H Q=>∃(p q:Addr)(a b:Str)(v u:V),x=.ref p∧y=.ref q∧cR K H p [.str a,v]∧cR K H q [.str b,u]∧((∃c,u=.str c)∨∃c,u=.int c)∧(fX v=true∨∃r zs,v=.ref r∧cR K H r zs) ∧
 Q (.bl (if neg then !(decide (a=b)&&zT v u)else(decide (a=b)&&zT v u))) H
theorem vz{A:Around}{pins:List (Addr×Obj)}{σ:L2.St}{H:Hp}{s:Shared}{its z:List Value}{a b:Str}{v u:V}(L:A.units<cLine)(I:Inv X pins σ H s)(r1:Vals [.str a,v] its)(Z:Vals [.str b,u] z)(Y:(∃c,u=.str c)∨∃c,u=.int c)(D:fX v=true∨∃r zs,v=.ref r∧cR X.K H r zs) :
  its.toArray.size=2∧z.toArray.size=2∧∀j (h1:j<its.toArray.size) (h2:j<z.toArray.size),SeqAt.EqAt A s its.toArray[j] z.toArray[j] (if j=0 then decide (a=b)else zT v u):=by
 cases r1 with
 | cons ra rt =>
  cases rt with
  | cons U rn =>
   cases rn
   cases Z with
   | cons rb F =>
    cases F with
    | cons G J =>
     cases J
     refine⟨rfl,rfl,fun j h1 h2=>?_⟩
     have:j=0∨j=1:=by have:j<2:=h1;omega
     rcases this with rfl | rfl
     ·obtain⟨t1,rfl⟩:=ra
      obtain⟨t2,rfl⟩:=rb
      rw[j4 rfl,show decide (a=b)=(a==b) by rw[Bool.beq_eq_decide_eq]]
      exact SeqAt.EqAt.str_str a t1 b t2
     ·rw[js (by decide)]
      have fu:fX u=true:=by rcases Y with⟨c,rfl⟩ | ⟨c,rfl⟩<;>rfl
      rcases D with D | ⟨r,zs,rfl,hz⟩
      ·unfold zT
       rw[D,Bool.true_and]
       exact Mi U G D fu
      ·cases U
       obtain⟨S,_,O,_⟩:=I.tuple hz
       rcases Y with⟨c,rfl⟩ | ⟨c,rfl⟩
       ·obtain⟨t2,rfl⟩:=G
        exact SeqAt.EqAt.tuple_str c t2 O L
       ·obtain⟨t2,rfl⟩:=G
        exact SeqAt.EqAt.tuple_int c t2 O L
theorem dq(D:X.A.units+1<cLine):pL X (compareOp .Eq) (N6 X.K false):=by
 intro pins s σ H x y v u Q I J O h
 obtain⟨p,q,a,b,z,F,rfl,rfl,h1,h2,G,S,k⟩:=h
 cases J
 cases O
 obtain⟨i1,U,t1,_⟩:=I.tuple h1
 obtain⟨Z,L,t2,_⟩:=I.tuple h2
 obtain⟨e1,e2,Y⟩:=vz (A:=X.A.in1) (by first | exact Nat.lt_of_succ_lt D | exact D | simpa using D) I U L G S
 refine SeqAt.eq_tupleAt t1 t2 (by omega) Y ⟨.bl _,H,I,rfl,?_⟩
 rw[e1,e2]
 have:((List.range (min 2 2)).all (fun j=>if j=0 then decide (a=b)else zT z F)&&(2==2:Bool))=(decide (a=b)&&zT z F):=by
  show((decide (a=b)&&(zT z F&&true))&&true)=_
  simp
 rw[this]
 exact k
theorem Gp(D:X.A.units+1<cLine):pL X (compareOp .NotEq) (N6 X.K true):=by
 intro pins s σ H x y v u Q I J O h
 obtain⟨p,q,a,b,z,F,rfl,rfl,h1,h2,G,S,k⟩:=h
 cases J
 cases O
 obtain⟨i1,U,t1,_⟩:=I.tuple h1
 obtain⟨Z,L,t2,_⟩:=I.tuple h2
 obtain⟨e1,e2,Y⟩:=vz (A:=X.A.in1) (by first | exact Nat.lt_of_succ_lt D | exact D | simpa using D) I U L G S
 refine(SeqAt.RcNeAt.tuples t1 t2 (by omega) Y) X.prog X.w X.xe _ ⟨.bl _,H,I,rfl,?_⟩
 rw[e1,e2]
 have:((List.range (min 2 2)).all (fun j=>if j=0 then decide (a=b)else zT z F)&&(2==2:Bool))=(decide (a=b)&&zT z F):=by
  show((decide (a=b)&&(zT z F&&true))&&true)=_
  simp
 rw[this]
 exact k
end
end L2
end
section
namespace L2
open PySem PySem.Spec PyProof.Rows
section
variable {X:Cx}
theorem ym{A:Around}{s:Shared}:∀{xs ys:List Int}{i1 z:List Value},Vals (xs.map V.int) i1→Vals (ys.map V.int) z→i1.length=xs.length∧z.length=ys.length∧∀j (h1:j<i1.length) (h2:j<z.length),SeqAt.EqAt A s i1[j] z[j] (decide (xs[j]?=ys[j]?))
 | [],ys,_,z,.nil,D=>⟨rfl,by rw[←D.length,ap],fun j h1 _=>absurd h1 (Nat.not_lt_zero _)⟩
 | x::xs,[],_,_,F,.nil=>⟨by rw[←F.length,ap],rfl,fun j _ h2=>absurd h2 (Nat.not_lt_zero _)⟩
 | x::xs,y::ys,_,_,.cons a F,.cons b D=>by
  obtain⟨h1,h2,G⟩:=ym (A:=A) (s:=s) F D
  refine⟨congrArg (·+1) h1,congrArg (·+1) h2,fun j L J=>?_⟩
  cases j with
  | zero =>
   obtain⟨t1,rfl⟩:=a
   obtain⟨t2,rfl⟩:=b
   have:=SeqAt.EqAt.int_int (A:=A) (s:=s) x t1 y t2
   rw[Bool.beq_eq_decide_eq]at this
   simpa using this
  | succ j=>exact G j (by simpa using L) (by simpa using J)
theorem J0{xs ys:List Int}:((List.range (min xs.length ys.length)).all (fun j=>decide (xs[j]?=ys[j]?))&&(xs.length==ys.length))=decide (xs=ys):=by
 rw[i2,ia,jI,j6,beq_iff_eq]
 constructor
 ·rintro⟨h1,h2⟩
  apply List.ext_getElem? fun j=>?_
  by_cases z:j<xs.length
  ·exact jv (h1 j (ka.mpr (by omega)))
  ·rw[List.getElem?_eq_none (by omega),List.getElem?_eq_none (by omega)]
 ·rintro rfl
  exact⟨fun j _=>i9 rfl,rfl⟩
theorem oA:∀{xs ys:List Int}{us:List Value},Vals (xs.map V.int) us→Vals (ys.map V.int) us→xs=ys
 | [],[],_,_,_=>rfl
 | [],y::ys,_,.nil,z=>by cases z
 | x::xs,[],_,j,.nil=>by cases j
 | x::xs,y::ys,_,.cons a j,.cons b z=>by
  obtain⟨t,rfl⟩:=a
  obtain⟨t',e⟩:=b
  cases e
  rw[oA j z]
theorem oE{pins:List (Addr×Obj)}{σ:L2.St}{H:Hp}{s:Shared}{a:Addr}{xs ys:List Int}(I:Inv X pins σ H s)(h1:cR X.K H a (xs.map V.int))(h2:cR X.K H a (ys.map V.int)):xs=ys:=by
 obtain⟨i1,J,t1,_⟩:=I.tuple h1
 obtain⟨D,F,t2,_⟩:=I.tuple h2
 obtain⟨S,G,_,Y,L⟩:=t1
 obtain⟨O,j,_,U,z⟩:=t2
 rw[G]at j
 cases j
 rw[L]at z
 injection z with e1 e2
 have e1:i1=D:=by simpa using congrArg Array.toList e1
 subst e1
 exact oA J F
theorem Hg{A:Around}{pins:List (Addr×Obj)}{σ:L2.St}{H:Hp}{s:Shared}{a b:Addr}{xs ys:List Int}(L:A.units<cLine)(I:Inv X pins σ H s)(h1:cR X.K H a (xs.map V.int))(h2:cR X.K H b (ys.map V.int)):SeqAt.EqAt A s (.ref a) (.ref b) (decide (xs=ys)):=by
 by_cases z:a=b
 ·subst z
  rw[oE I h1 h2,i9 rfl]
  exact SeqAt.EqAt.same _
 ·obtain⟨i1,O,t1,_⟩:=I.tuple h1
  obtain⟨D,G,t2,_⟩:=I.tuple h2
  obtain⟨e1,e2,S⟩:=ym (A:=A.in1) (s:=s) O G
  have:=SeqAt.RcAt.tuples (A:=A) (s:=s) t1 t2 L (e:=fun j=>decide (xs[j]?=ys[j]?)) (fun j J F=>by simpa using S j (by simpa using J) (by simpa using F))
  rw[show i1.toArray.size=xs.length by simpa using e1,show D.toArray.size=ys.length by simpa using e2,J0]at this
  exact SeqAt.EqAt.of_refs z this
noncomputable def qx(K:PySem.W.Frag)(H:Hp)(rows:List (List Int))(vs:List V):Prop:=Paired (fun row v=>∃a,v=V.ref a∧cR K H a (row.map V.int)) rows vs
open Classical in
noncomputable def eqRow(K:PySem.W.Frag)(H:Hp)(row:List Int)(u:Value):Bool:=decide (∃a,u=.ref a∧cR K H a (row.map V.int))
theorem uM{pins:List (Addr×Obj)}{σ:L2.St}{H:Hp}{s:Shared}{a:Addr}{xs row:List Int}(I:Inv X pins σ H s)(h:cR X.K H a (xs.map V.int)):eqRow X.K H row (.ref a)=decide (xs=row):=by
 unfold eqRow
 rw[decide_eq_decide]
 constructor
 ·rintro⟨b,e,h2⟩
  cases e
  exact oE I h h2
 ·rintro rfl
  exact⟨a,rfl,h⟩
theorem yp{pins:List (Addr×Obj)}{σ:L2.St}{H:Hp}{s:Shared}{row:List Int}(I:Inv X pins σ H s):∀{rows:List (List Int)}{vs:List V}{us:List Value},qx X.K H rows vs→Vals vs us→us.any (eqRow X.K H row)=decide (row∈rows)
 | _,_,_,.nil,.nil=>rfl
 | r::rows,_,_,.cons h t,.cons a b=>by
  obtain⟨x,rfl,hx⟩:=h
  cases a
  rw[List.any_cons,uM I hx,yp I t b]
  by_cases e:r=row
  ·subst e;simp
  ·have:¬row=r:=fun z=>e z.symm
   simp[e,this]
theorem pO{A:Around}{pins:List (Addr×Obj)}{σ:L2.St}{H:Hp}{s:Shared}{p:Addr}{row:List Int}(z:A.units<cLine)(I:Inv X pins σ H s)(D:cR X.K H p (row.map V.int)):∀{rows:List (List Int)}{vs:List V}{us:List Value},qx X.K H rows vs→Vals vs us→∀u∈us,SeqAt.EqAt A s u (.ref p) (eqRow X.K H row u)
 | _,_,_,.nil,.nil=>fun u j=>by cases j
 | r::rows,_,_,.cons h t,.cons a b=>fun u j=>by
  obtain⟨x,rfl,hx⟩:=h
  cases a
  rcases hU.mp j with rfl | j
  ·rw[uM I hx]
   exact Hg z I hx D
  ·exact pO z I D t b u j
noncomputable def Um(K:PySem.W.Frag):R2:=fun x y H Q=>∃(p q:Addr)(row:List Int)(rows:List (List Int))(vs:List V),x=.ref p∧y=.ref q∧cR K H p (row.map V.int)∧cR K H q vs∧qx K H rows vs∧Q (.bl (decide (row∈rows))) H
theorem Bj(j:X.A.units+1<cLine):pL X (compareOp .In) (Um X.K):=by
 intro pins s σ H x y v u Q I D F h
 obtain⟨p,q,row,rows,vs,rfl,rfl,h1,h2,z,k⟩:=h
 cases D
 cases F
 obtain⟨its,r,pl,hz⟩:=I.tuple h2
 refine SeqAt.in_tupleAt (eqRow X.K H row) pl (fun w hw=>pO (by first | exact Nat.lt_of_succ_lt j | exact j | simpa using j) I h1 z r w (by simpa using hw)) ⟨.bl _,H,I,rfl,?_⟩
 rw[show its.toArray.any (eqRow X.K H row)=its.any (eqRow X.K H row) by simp,yp I z r]
 exact k
noncomputable def N7(K:PySem.W.Frag):V→List V→Hp→VK→Prop:=fun x xs H Q=>∃(a:Addr)(ys:List V)(y:V)(j:Nat)(z:V),x=V.ref a∧xs=[y]∧cR K H a ys∧fX y=true∧ys.all fX=true∧ys[j]?=some z∧Mh z y=true ∧
 (∀(m:Nat)(D:V),m<j→ys[m]?=some D→Mh D y=false)∧Q (.int (j:Nat)) H
theorem vK:Hy X "tuple.index" (N7 X.K):=by
 intro pins s σ H x xs v us Q I rx ac h
 obtain⟨a,ys,y,j,z,rfl,rfl,hs,fy,G,hz,Y,O,q⟩:=h
 cases rx
 cases ac with
 | cons ry rt =>
  rename_i uy ut
  cases rt
  obtain⟨its,J,⟨⟨cls,dd,data,sl⟩,ho,hc,n,hd⟩,ah⟩:=I.tuple hs
  simp only at hc hd
  subst hc hd
  obtain⟨u,hu,ru⟩:=J.get hz
  obtain⟨ae,Z⟩:=hZ.mp hu
  have ai:=J.length
  have hj:j<its.toArray.size:=by simpa using ae
  refine call_meets PySem.F.slot_tuple_index ⟨_,ho,rfl⟩ PySem.F.entry_tuple_index (PySem.F.args_tuple_index_2 _ _)
   (SeqAt.m5 a its.toArray n dd sl uy (zU y) j hj ?_ ?_) ⟨ho,fun u' L=>iR ry fy J G u' (by simpa using L),?_⟩
  ·have e1:its.toArray[j]=u:=by simpa using Z
   rw[e1,xK ru (Eg G hz)]
   exact Y
  ·intro m hm U
   have al:m<its.length:=by simpa using hm
   have af:m<ys.length:=by omega
   have D:ys[m]?=some ys[m]:=ii af
   obtain⟨u2,S,ag⟩:=J.get D
   obtain⟨_,aa⟩:=hZ.mp S
   have e1:its.toArray[m]=u2:=by simpa using aa
   rw[e1,xK ag (Eg G D)]
   exact O m _ U D
  ·exact⟨.int (j:Nat),H,I.tok _,⟨_,rfl⟩,q⟩
noncomputable def J9(K:PySem.W.Frag):V→List V→Hp→VK→Prop:=fun x xs H Q=>∃(q p:Addr)(row:List Int)(rows:List (List Int))(vs:List V),x=V.ref q∧xs=[.ref p]∧cR K H p (row.map V.int)∧cR K H q vs∧qx K H rows vs∧row∈rows∧Q (.int (rows.idxOf row:Nat)) H
theorem yo{K:PySem.W.Frag}{H:Hp}:∀{rows:List (List Int)}{vs:List V},qx K H rows vs→∀(m:Nat)(r:List Int),rows[m]?=some r→∃a,vs[m]?=some (.ref a)∧cR K H a (r.map V.int)
 | _,_,.nil,m,r,h=>by cases h
 | x::rows,_,.cons h t,0,r,e=>by
  cases e
  obtain⟨a,rfl,j⟩:=h
  exact⟨a,rfl,j⟩
 | x::rows,_,.cons h t,m+1,r,e=>yo t m r e
theorem Bl(z:X.A.units+1<cLine):Hy X "tuple.index" (J9 X.K):=by
 intro pins s σ H x xs v us Q I rx Y h
 obtain⟨q,p,row,rows,vs,rfl,rfl,h1,h2,G,j,k⟩:=h
 cases rx
 cases Y with
 | cons ry rt =>
  cases ry
  cases rt
  obtain⟨its,S,⟨⟨cls,dd,data,sl⟩,ho,hc,n,hd⟩,aa⟩:=I.tuple h2
  simp only at hc hd
  subst hc hd
  have D:rows.idxOf row<rows.length:=List.idxOf_lt_length_of_mem j
  have ae:rows.length=vs.length:=Paired.length G
  have ac:=S.length
  have at_:∀m (j:m<its.toArray.size) (r:List Int),rows[m]?=some r→eqRow X.K H row its.toArray[m]=decide (r=row):=by
   intro m j r hr
   obtain⟨a,ha,hs⟩:=yo G m r hr
   obtain⟨u,z,ru⟩:=S.get ha
   cases ru
   obtain⟨_,U⟩:=hZ.mp z
   rw[show its.toArray[m]=.ref a by simpa using U]
   exact uM I hs
  have Z:rows.idxOf row<its.toArray.size:=by simp;omega
  refine call_meets PySem.F.slot_tuple_index ⟨_,ho,rfl⟩ PySem.F.entry_tuple_index (PySem.F.args_tuple_index_2 _ _)
   (SeqAt.m5 q its.toArray n dd sl (.ref p) (eqRow X.K H row) (rows.idxOf row) Z ?_ ?_) ⟨ho,fun u' J=>pO (by first | exact Nat.lt_of_succ_lt z | exact z | simpa using z) I h1 G S u' (by simpa using J),?_⟩
  ·rw[at_ _ Z row (by rw[ii D,List.getElem_idxOf D])]
   exact i9 rfl
  ·intro m j O
   have L:m<rows.length:=by omega
   rw[at_ m j rows[m] (ii L)]
   refine j5 fun e=>?_
   have:=List.not_of_lt_findIdx (p:=(·==row)) O
   simp[e]at this
  ·exact⟨.int (rows.idxOf row:Nat),H,I.tok _,⟨_,rfl⟩,k⟩
end
end L2
end
section
namespace XL
open PySem PySem.Spec PyProof.Rows L2
section
variable {X:Cx}
noncomputable def M7(_ j:Int):Prop:=0<j∧j.natAbs.log2<9000
theorem yR:pL X (binaryOp .FloorDiv) (rI M7 fun i j=>.int (i / j)):=V2 fun i j _ _ _ _ _ z q=>by
 have h1:(0:Int)<j:=z.1
 exact floordiv_int (by omega) (by rw[Int.fdiv_eq_ediv_of_nonneg i (by omega)];exact q) (.inl (PyProof.noPylong_of_log2 z.2))
end
end XL
end
section
namespace SB
open PySem PySem.Spec PyProof.Rows L2 XL
open Vbdeaa (Text Exp Exps Un Bin Ins Tok digit letter wordSign blank)
variable {P:Program} {w:World} {K:PySem.W.Frag} {mg:Str→Option Value} {base:Heap}
noncomputable def lG:Sp:=fun vs H Q _=>∃c:Int,vs=[.int c]∧Q (.bl (digit c)) H
noncomputable def jT:Sp:=fun vs H Q _=>∃c:Int,vs=[.int c]∧Q (.bl (letter c)) H
noncomputable def wB:Sp:=fun vs H Q _=>∃c:Int,vs=[.int c]∧Q (.bl (wordSign c)) H
noncomputable abbrev jh:Stmt:=top 61
noncomputable abbrev gQ:Stmt:=top 62
noncomputable abbrev ul:Stmt:=top 63
theorem digit_eq(c:Int):digit c=(decide (48≤c)&&decide (c≤57)):=by
 unfold Vbdeaa.digit
 by_cases h1:48≤c<;>by_cases h2:c≤57<;>simp[h1,h2]
theorem vN(c:Int):letter c=((decide (65≤c)&&decide (c≤90))||(decide (97≤c)&&decide (c≤122))):=by
 unfold Vbdeaa.letter
 by_cases h1:65≤c<;>by_cases h2:c≤90<;>by_cases j:97≤c<;>by_cases z:c≤122<;>simp[h1,h2,j,z]
section
theorem NZ:aK ["sign"] ["sign"] (aD jh):=⟨rfl,rfl,rfl,by decide +kernel,rfl,by decide +kernel,by decide +kernel⟩
theorem j0{f:Addr}{fd:FuncData}(F:Fn K mg "is_digit" jh f fd ["sign"]):aF P w K mg base (aW P w) 1 f fd ["sign"] lG:=by
 refine dZ F.F NZ (fun vs H Q E h=>?_) (fun cdv A outer s H vs Q E j h=>?_)
 ·obtain⟨_,rfl,_⟩:=h
  rfl
 ·obtain⟨c,rfl,k⟩:=h
  rw[digit_eq]at k
  refine⟨_,ao (aV (uw nj nj aB (pv 0) aB)),?_⟩
  refine⟨_,rfl,48,c,rfl,rfl,_,rfl,fQ (fun h1=>?_) fun h1=>?_⟩
  ·rw[h1,Bool.true_and]at k
   exact⟨c,57,rfl,rfl,k⟩
  ·rw[Bool.eq_false_iff.mpr h1,Bool.false_and]at k
   exact k
theorem Jz:aK ["sign"] ["sign"] (aD gQ):=⟨rfl,rfl,rfl,by decide +kernel,rfl,by decide +kernel,by decide +kernel⟩
theorem lL{f:Addr}{fd:FuncData}(F:Fn K mg "is_letter" gQ f fd ["sign"]):aF P w K mg base (aW P w) 1 f fd ["sign"] jT:=by
 refine dZ F.F Jz (fun vs H Q E h=>?_) (fun cdv A outer s H vs Q E z h=>?_)
 ·obtain⟨_,rfl,_⟩:=h
  rfl
 ·obtain⟨c,rfl,k⟩:=h
  rw[vN]at k
  refine⟨_,ao (aV (Ks (uw nj nj aB (pv 0) aB) (Bc (uw nj nj aB (pv 0) aB)))),?_⟩
  have two:(decide (65≤c)&&decide (c≤90))=false→z9 (Ay fun i j=>V.bl (decide (i≤j))) (Ay fun i j=>V.bl (decide (i≤j))) (tC (V.int 97)) (pP 0) (tC (V.int 122)) (L2.start ["sign"] [V.int c]) H Q:=fun e=>by
   rw[e,Bool.false_or]at k
   refine⟨_,rfl,97,c,rfl,rfl,_,rfl,fQ (fun h1=>?_) fun h1=>?_⟩
   ·rw[h1,Bool.true_and]at k
    exact⟨c,122,rfl,rfl,k⟩
   ·rw[Bool.eq_false_iff.mpr h1,Bool.false_and]at k
    exact k
  refine⟨_,rfl,65,c,rfl,rfl,_,rfl,fQ (fun h1=>?_) fun h1=>?_⟩
  ·refine⟨c,90,rfl,rfl,_,rfl,fQ (fun h2=>?_) fun h2=>?_⟩
   ·rw[h1,h2]at k
    exact k
   ·exact two (by rw[Bool.eq_false_iff.mpr h2,Bool.and_false])
  ·exact⟨_,rfl,aR (two (by rw[Bool.eq_false_iff.mpr h1,Bool.false_and]))⟩
theorem NP:aK ["sign"] ["sign"] (aD ul):=⟨rfl,rfl,rfl,by decide +kernel,rfl,by decide +kernel,by decide +kernel⟩
theorem KJ{f L fL:Addr}{fd G dL:FuncData}(F:Fn K mg "is_name_sign" ul f fd ["sign"])(D:Fn K mg "is_digit" jh L G ["sign"])(j:Fn K mg "is_letter" gQ fL dL ["sign"])(O:GC K mg "UNDERSCORE" (.i 95)):aF P w K mg base (aW P w) 2 f fd ["sign"] wB:=by
 have S:aF P w K mg base (aW P w) 1 L G ["sign"] lG:=j0 D
 have U:aF P w K mg base (aW P w) 1 fL dL ["sign"] jT:=lL j
 refine dZ F.F NP (fun vs H Q E h=>?_) (fun cdv A outer s H vs Q E J h=>?_)
 ·obtain⟨_,rfl,_⟩:=h
  rfl
 ·obtain⟨c,rfl,k⟩:=h
  unfold Vbdeaa.wordSign at k
  refine⟨_,ao (aV (Ks (a_ U J rfl j.m j.F.kp j.b .nil passes (aj (pv 0) au)) (Ks (a_ S J rfl D.m D.F.kp D.b .nil passes (aj (pv 0) au)) (Bc (sU cz (pv 0) (bu rfl O) (aL _)))))),?_⟩
  refine⟨_,rfl,c,rfl,_,rfl,?_⟩
  cases h1:letter c with
  | true=>rw[h1]at k;exact bh k
  | false =>
   rw[h1,Bool.false_or]at k
   refine aR ⟨_,rfl,c,rfl,_,rfl,?_⟩
   cases h2:digit c with
   | true=>rw[h2]at k;exact bh k
   | false =>
    rw[h2,Bool.false_or]at k
    refine aR ⟨_,rfl,rfl,?_⟩
    have:(c==95)=decide (V.int c=V.int 95):=by
     rw[Bool.beq_eq_decide_eq,decide_eq_decide]
     exact⟨fun z=>by rw[z],fun z=>V.int.inj z⟩
    rw[this]at k
    exact k
theorem fj{H H':Hp}{a:Addr}{xs:List V}(s:aA H H')(h:bZ K H a xs):bZ K H' a xs:=by
 rcases h with(h | ⟨o,h⟩) | h
 ·exact .inl (.inl (s _ _ h))
 ·exact .inl (.inr ⟨o,s _ _ h⟩)
 ·exact .inr h
end
noncomputable def pk(t:Text)(j:Nat):Int:=(t[j]?).getD (-1)
noncomputable def Gd(ls:Addr)(i:Nat)(lt:Addr):List (Str×V):=[("signs",.ref ls),("at",.int (i:Nat)),("tokens",.ref lt)]
structure jD (K:PySem.W.Frag) (Sc:Addr):Prop where
 cl:CW K Sc
 nS:aO K Sc "signs"
 nA:aO K Sc "at"
 nT:aO K Sc "tokens"
noncomputable abbrev bM(i:Nat):Stmt:=inClass (top 65) i
structure jK (K:PySem.W.Frag) (Sc:Addr) (H:Hp) (sc dx ls lt:Addr) (t:Text) (i:Nat):Prop where
 obj:H sc=some (.ins Sc dx (Gd ls i lt))
 sig:bZ K H ls (vI t)
 few:t.length≤2000
 le:i≤t.length
noncomputable def I_(Sc:Addr):Sp:=fun vs H Q _=>∃(x dx ls:Addr),vs=[.ref x,.ref ls]∧H x=some (.ins Sc dx [])∧∀lt,H lt=none→lt≠x→∀H',bC x H H'→H' lt=some (.lst [])→H' x=some (.ins Sc dx (Gd ls 0 lt))→Q .non H'
noncomputable def jR(K:PySem.W.Frag)(Sc:Addr):Sp:=fun vs H Q _=>∃(sc dx ls lt:Addr)(t:Text)(i k:Nat),vs=[.ref sc,.int k]∧jK K Sc H sc dx ls lt t i∧Q (.int (pk t (i+k))) H
noncomputable def Ak(K:PySem.W.Frag)(Sc:Addr):Sp:=fun vs H Q _=>∃(sc dx ls lt:Addr)(t:Text)(i:Nat)(c:Int),vs=[.ref sc,.int c]∧jK K Sc H sc dx ls lt t i∧Q (.bl (decide (pk t i=c)&&digit (pk t (i+1)))) H
section
theorem Rm:aK ["self","signs"] ["self","signs"] (aD (bM 0)):=⟨rfl,rfl,rfl,by decide +kernel,rfl,by decide +kernel,by decide +kernel⟩
theorem Oo{f Sc:Addr}{fd:FuncData}(F:fc K "__init__" "Scanner.__init__" (bM 0) f fd)(T:jD K Sc):aF P w K mg base (aW P w) 1 f fd ["self","signs"] (I_ Sc):=by
 refine dZ F Rm (fun vs H Q E h=>?_) (fun cdv A outer s H vs Q E L h=>?_)
 ·obtain⟨_,_,_,rfl,_⟩:=h
  rfl
 ·obtain⟨x,dx,ls,rfl,hx,k⟩:=h
  refine⟨_,aq (b8 (pv 0) (pv 1) rfl) (aq (b8 (pv 0) aB rfl) (ao (b8 (pv 0) (bT au) rfl))),?_⟩
  refine⟨_,rfl,_,rfl,x,Sc,dx,[],rfl,hx,T.cl,T.nS,(by decide),?_⟩
  refine⟨_,rfl,x,Sc,dx,_,rfl,ak,T.cl,T.nA,(by show 1<1000;decide),?_⟩
  refine⟨(by show 0≤sizeLine;decide),fun lt j=>?_⟩
  have D:lt≠x:=fun z=>by rw[z,ak]at j;cases j
  rw[az D,az D]at j
  refine⟨_,rfl,x,Sc,dx,_,rfl,(by rw[az (Ne.symm D)];exact ak),T.cl,T.nT,(by show 2<1000;decide),?_⟩
  refine k lt j D _ (fun y o q J=>?_) (by rw[az D];exact ak) ak
  have G:y≠lt:=fun z=>by rw[z,j]at q;cases q
  rw[az J,az G,az J,az J]
  exact q
theorem Jx:aK ["self","ahead","place"] ["self","ahead"] (aD (bM 1)):=⟨rfl,rfl,rfl,by decide +kernel,rfl,by decide +kernel,by decide +kernel⟩
theorem jl{f Sc:Addr}{fd:FuncData}(F:fc K "peek" "Scanner.peek" (bM 1) f fd)(T:jD K Sc)(z:mg "len"=none):aF P w K mg base (aW P w) 1 f fd ["self","ahead"] (jR K Sc):=by
 refine dZ F Jx (fun vs H Q E h=>?_) (fun cdv A outer s H vs Q E J h=>?_)
 ·obtain⟨_,_,_,_,_,_,_,rfl,_⟩:=h
  rfl
 ·obtain⟨sc,dx,ls,lt,t,i,j,rfl,D,k⟩:=h
  refine⟨_,aq (bw (i:=2) Jx.nd rfl (Or.inl rfl) (dw pZ (aJ (pv 0) rfl) (pv 1)))
   (aq (aX (aG DQ (pv 2) (bW bG (by rfl) z (by decide +kernel) (aj (aJ (pv 0) rfl) au)) (aL _)) (ao (aV (b7 di (aJ (pv 0) rfl) (pv 2) (fun _ _=>rfl)))) aP)
   (ao (aV (eN cW aB)))),?_⟩
  refine⟨_,rfl,sc,Sc,dx,_,_,rfl,D.obj,T.cl,T.nA,rfl,_,rfl,_,_,rfl,rfl,?_⟩
  refine⟨_,rfl,_,rfl,sc,Sc,dx,_,_,rfl,D.obj,T.cl,T.nS,rfl,ls,_,rfl,.inl D.sig,_,_,rfl,rfl,_,rfl,?_⟩
  rw[cT,show((i:Nat):Int)+(j:Nat)=((i+j:Nat):Int) by omega]
  by_cases G:i+j<t.length
  ·rw[i9 (by omega)]
   refine bh ⟨_,rfl,sc,Sc,dx,_,_,rfl,D.obj,T.cl,T.nS,rfl,_,rfl,ls,_,_,.int (pk t (i+j)),rfl,rfl,D.sig,jx ?_,k⟩
   rw[H_]
   unfold pk
   rw[ii G]
   rfl
  ·rw[j5 (by omega)]
   refine aR ⟨1,rfl,?_⟩
   unfold pk at k
   rw[List.getElem?_eq_none (by omega)]at k
   exact k
theorem Rt:aK ["self","sign"] ["self","sign"] (aD (bM 3)):=⟨rfl,rfl,rfl,by decide +kernel,rfl,by decide +kernel,by decide +kernel⟩
theorem O4{f U Y Sc:Addr}{fd Z O:FuncData}(F:fc K "digits_behind" "Scanner.digits_behind" (bM 3) f fd)(T:jD K Sc)(G:Fm K Sc "peek" "Scanner.peek" (bM 1) U Z ["self","ahead"])(j:mg "len"=none)(J:Fn K mg "is_digit" jh Y O ["sign"]):aF P w K mg base (aW P w) 2 f fd ["self","sign"] (Ak K Sc):=by
 have S:aF P w K mg base (aW P w) 1 U Z ["self","ahead"] (jR K Sc):=jl G.F T j
 have GD:aF P w K mg base (aW P w) 1 Y O ["sign"] lG:=j0 J
 refine dZ F Rt (fun vs H Q E h=>?_) (fun cdv A outer s H vs Q E L h=>?_)
 ·obtain⟨_,_,_,_,_,_,_,rfl,_⟩:=h
  rfl
 ·obtain⟨sc,dx,ls,lt,t,i,c,rfl,D,k⟩:=h
  refine⟨_,ao (aV (RC (sU cz (bc (pv 0) T.cl G.me S L G.b .nil passes (aj aB au)) (pv 1) (aL _)) (Bc (a_ GD L rfl J.m J.F.kp J.b .nil passes (aj (bc (pv 0) T.cl G.me S L G.b .nil passes (aj aB au)) au))))),?_⟩
  refine⟨_,rfl,sc,dx,_,rfl,D.obj,rfl,sc,dx,ls,lt,t,i,0,rfl,D,_,rfl,rfl,_,rfl,?_⟩
  have e1:decide (V.int (pk t (i+0))=V.int c)=decide (pk t i=c):=by rw[decide_eq_decide];exact⟨fun z=>V.int.inj z,fun z=>by rw[Nat.add_zero,z]⟩
  rw[e1]
  cases h1:decide (pk t i=c)with
  | false=>rw[h1]at k;exact aR k
  | true =>
   rw[h1,Bool.true_and]at k
   exact bh ⟨_,rfl,sc,dx,_,rfl,D.obj,rfl,sc,dx,ls,lt,t,i,1,rfl,D,_,rfl,k⟩
end
noncomputable def aQ(p:Int→Bool)(t:Text)(i:Nat):Text:=(t.drop i).takeWhile p
theorem eF{p:Int→Bool}{t:Text}{i:Nat}(z:p (-1)=false)(h:p (pk t i)=true):aQ p t i=pk t i::aQ p t (i+1)∧i<t.length:=by
 unfold pk at h
 cases e:t[i]? with
 | none=>rw[e]at h;rw[show((none:Option Int).getD (-1))=-1 from rfl,z]at h;cases h
 | some c =>
  rw[e]at h
  obtain⟨hi,j⟩:=hZ.mp e
  refine⟨?_,hi⟩
  unfold aQ pk
  rw[List.drop_eq_getElem_cons hi,j,e,List.takeWhile_cons]
  have h:p c=true:=h
  rw[h]
  rfl
theorem Dr{p:Int→Bool}{t:Text}{i:Nat}(h:p (pk t i)=false):aQ p t i=[]:=by
 unfold aQ
 cases e:t[i]? with
 | none=>rw[List.drop_eq_nil_of_le (List.getElem?_eq_none_iff.mp e)];rfl
 | some c =>
  obtain⟨hi,j⟩:=hZ.mp e
  unfold pk at h
  rw[e]at h
  have h:p c=false:=h
  rw[List.drop_eq_getElem_cons hi,j,List.takeWhile_cons,h]
  rfl
theorem dM{p:Int→Bool}{t:Text}{i:Nat}:(aQ p t i).length≤t.length-i:=by
 unfold aQ
 exact iq (List.takeWhile_sublist p).length_le (by rw[kg];exact f' _)
noncomputable def dv(n:Int)(w:Text):Int:=w.foldl (fun n c=>n*10+c-48) n
theorem iT:digit (-1)=false:=by decide
theorem jK.upd{K:PySem.W.Frag}{Sc:Addr}{H H':Hp}{sc dx ls lt:Addr}{t:Text}{i j:Nat}(D:jK K Sc H sc dx ls lt t i)(s:bC sc H H')(h:H' sc=some (.ins Sc dx (Gd ls j lt)))(F:j≤t.length):jK K Sc H' sc dx ls lt t j:=by
 refine⟨h,?_,D.few,F⟩
 rcases D.sig with(q | ⟨o,q⟩) | q
 ·exact .inl (.inl (s _ _ q fun z=>by rw[z,D.obj]at q;cases q))
 ·exact .inl (.inr ⟨o,s _ _ q fun z=>by rw[z,D.obj]at q;cases q⟩)
 ·exact .inr q
noncomputable def wC(K:PySem.W.Frag)(Sc:Addr):Sp:=fun vs H Q _=>∃(sc dx ls lt:Addr)(t:Text)(i:Nat)(n:Int),vs=[.ref sc,.int n]∧jK K Sc H sc dx ls lt t i ∧
 ∀H',bC sc H H'→jK K Sc H' sc dx ls lt t (i+(aQ digit t i).length)→Q (.int (dv n (aQ digit t i))) H'
section
theorem Ju:aK ["self","number"] ["self","number"] (aD (bM 4)):=⟨rfl,rfl,rfl,by decide +kernel,rfl,by decide +kernel,by decide +kernel⟩
theorem Oj{f fP fD Sc:Addr}{fd dP Z:FuncData}(F:fc K "take_digits" "Scanner.take_digits" (bM 4) f fd)(T:jD K Sc)(S:Fm K Sc "peek" "Scanner.peek" (bM 1) fP dP ["self","ahead"])(L:mg "len"=none)(U:Fn K mg "is_digit" jh fD Z ["sign"]):aF P w K mg base (aW P w) 2 f fd ["self","number"] (wC K Sc):=by
 have GP:aF P w K mg base (aW P w) 1 fP dP ["self","ahead"] (jR K Sc):=jl S.F T L
 have GD:aF P w K mg base (aW P w) 1 fD Z ["sign"] lG:=j0 U
 refine dZ F Ju (fun vs H Q E h=>?_) (fun cdv A outer s H vs Q E Y h=>?_)
 ·obtain⟨_,_,_,_,_,_,_,rfl,_⟩:=h
  rfl
 ·obtain⟨sc,dx,ls,lt,t,i,n,rfl,D,k⟩:=h
  refine⟨_,aq (gB rC (eG (a_ GD Y rfl U.m U.F.kp U.b .nil passes (aj (bc (pv 0) T.cl S.me GP Y S.b .nil passes (aj aB au)) au)))
    (aq (bw (i:=1) Ju.nd rfl (Or.inl rfl) (dw uz (dw pZ (dw KH (pv 1) aB) (bc (pv 0) T.cl S.me GP Y S.b .nil passes (aj aB au))) aB))
    (ao (cH (pv 0) aB gD))))
   (ao (aV (pv 1))),?_⟩
  refine⟨fun m σ H'=>∃(j:Nat)(x:Int),σ=[some (.ref sc),some (.int x)]∧m=t.length-j∧bC sc H H'∧jK K Sc H' sc dx ls lt t j∧dv n (aQ digit t i)=dv x (aQ digit t j)∧i+(aQ digit t i).length=j+(aQ digit t j).length,
   ⟨_,i,n,rfl,rfl,fun _ _ q _=>q,D,rfl,rfl⟩,?_⟩
  rintro m σ H' ⟨j,x,rfl,rfl,sx,z,e1,e2⟩
  refine⟨_,rfl,sc,dx,_,rfl,z.obj,rfl,sc,dx,ls,lt,t,j,0,rfl,z,_,rfl,_,rfl,?_⟩
  rw[Nat.add_zero]
  cases hd:digit (pk t j)with
  | true =>
   obtain⟨r1,r2⟩:=eF iT hd
   refine bh ⟨fun σ' G=>∃(J:Nat)(x:Int),σ'=[some (.ref sc),some (.int x)]∧t.length-J<t.length-j∧bC sc H G∧jK K Sc G sc dx ls lt t J∧dv n (aQ digit t i)=dv x (aQ digit t J)∧i+(aQ digit t i).length=J+(aQ digit t J).length,fun σ' G ⟨j,x,h1,h2,h3⟩=>⟨_,h2,j,x,h1,rfl,h3⟩,?_⟩
   refine⟨_,rfl,_,_,rfl,rfl,.inr ⟨by decide,by decide⟩,_,rfl,sc,dx,_,rfl,z.obj,rfl,sc,dx,ls,lt,t,j,0,rfl,z,_,_,rfl,rfl,_,_,rfl,rfl,?_⟩
   refine⟨_,rfl,sc,Sc,dx,_,_,rfl,z.obj,T.cl,T.nA,rfl,_,_,rfl,rfl,dx,_,z.obj,(by show 3<1000;decide),?_⟩
   have O:bC sc H' (L2.upd H' sc (.ins Sc dx (Gd ls (j+1) lt))):=bC.wk fun _ _ q _=>q
   refine⟨j+1,_,rfl,by omega,sx.trans O,z.upd O ak r2,?_,?_⟩
   ·rw[e1,r1,Nat.add_zero]
    rfl
   ·rw[e2,r1,cr]
    omega
  | false =>
   have r0:=Dr hd
   refine aR ⟨_,rfl,?_⟩
   rw[r0]at e1 e2
   have k:=k H' sx (by rw[e2];exact z)
   rw[e1]at k
   exact k
end
end SB
end
section
namespace SB
open PySem PySem.Spec PyProof.Rows L2 XL
open Vbdeaa (Text Exp Exps Un Bin Ins Tok digit letter wordSign blank numberToken digitsValue frac small)
variable {P:Program} {w:World} {K:PySem.W.Frag} {mg:Str→Option Value} {base:Heap}
theorem qw{p:Int→Bool}(z:p (-1)=false)(t:Text)(j:Nat):(t[j]?).any p=p (pk t j):=by
 unfold pk
 cases t[j]? with
 | none=>exact z.symm
 | some c=>rfl
theorem Mg{c:Int}(D:c≠-1)(t:Text)(j:Nat):(t[j]?==some c)=decide (pk t j=c):=by
 unfold pk
 cases h:t[j]? with
 | none =>
  rw[show((none:Option Int)==some c)=false from rfl]
  exact(j5 fun z=>D z.symm).symm
 | some d =>
  show(d==c)=decide (d=c)
  exact Bool.beq_eq_decide_eq d c
theorem eE(t:Text)(j:Nat):(t.drop j).head?=t[j]?:=by rw[List.head?_drop]
theorem uo(p:Int→Bool)(t:Text)(i:Nat):(t.drop i).dropWhile p=t.drop (i+(aQ p t i).length):=by
 have h:(t.drop i).takeWhile p++(t.drop i).dropWhile p=t.drop i:=List.takeWhile_append_dropWhile
 have e:t.drop (i+(aQ p t i).length)=(t.drop i).drop (aQ p t i).length:=by rw[List.drop_drop]
 rw[e]
 conv=>rhs;rw[←h]
 unfold aQ
 rw[List.drop_left]
theorem xP:∀(w:Text)(m:Nat),(∀c∈w,digit c=true)→dv (m:Int) w=((w.foldl (fun n c=>10*n+(c-48).toNat) m:Nat):Int)
 | [],m,_=>rfl
 | c::r,m,h=>by
  have j:=h c b'
  unfold Vbdeaa.digit at j
  have j:=jv j
  show dv ((m:Int)*10+c-48) r=_
  rw[show(m:Int)*10+c-48=((10*m+(c-48).toNat:Nat):Int) by omega]
  exact xP r _ fun d hd=>h d (am _ hd)
theorem lH{p:Int→Bool}{t:Text}{i:Nat}:∀c∈aQ p t i,p c=true:=fun c j=>by
 have:=List.all_takeWhile (p:=p) (l:=t.drop i)
 exact j6.mp this c j
noncomputable def bN(t:Text)(i:Nat):Nat×Nat×Nat :=
 let w:=aQ digit t i
 let i1:=i+w.length
 let f:=aQ digit t (i1+1)
 if(decide (pk t i1=46)&&digit (pk t (i1+1)))=true then(digitsValue (w++f),10 ^ f.length,i1+1+f.length)
 else if(decide (pk t i1=58)&&digit (pk t (i1+1)))=true then(digitsValue w,digitsValue f,i1+1+f.length)
 else(digitsValue w,1,i1)
noncomputable def eQ(c:Int):Bool:=letter c||(c==95||(c==46||c==58))
theorem O9(t:Text)(i:Nat):numberToken (t.drop i)=if(bN t i).2.1=0∨eQ (pk t (bN t i).2.2)=true then(.bad,[])
  else if small (frac ((bN t i).1:Nat) (bN t i).2.1)=true then(.num (frac ((bN t i).1:Nat) (bN t i).2.1),t.drop (bN t i).2.2)else(.bad,[]):=by
 have bm:eQ (-1)=false:=by decide
 unfold Vbdeaa.numberToken
 simp only
 rw[uo]
 have J:(t.drop i).takeWhile digit=aQ digit t i:=rfl
 rw[J]
 generalize D:i+(aQ digit t i).length=i1
 have e1:((t.drop i1).drop 1)=t.drop (i1+1):=by rw[List.drop_drop]
 rw[e1,eE,eE,Mg (by decide),Mg (by decide),qw iT,uo]
 have G:(t.drop (i1+1)).takeWhile digit=aQ digit t (i1+1):=rfl
 rw[G]
 have F:bN t i=if(decide (pk t i1=46)&&digit (pk t (i1+1)))=true then(digitsValue (aQ digit t i++aQ digit t (i1+1)),10 ^ (aQ digit t (i1+1)).length,i1+1+(aQ digit t (i1+1)).length)
   else if(decide (pk t i1=58)&&digit (pk t (i1+1)))=true then(digitsValue (aQ digit t i),digitsValue (aQ digit t (i1+1)),i1+1+(aQ digit t (i1+1)).length)
   else(digitsValue (aQ digit t i),1,i1):=by
  unfold bN
  simp only[D]
 rw[F]
 cases hd:digit (pk t (i1+1))with
 | false =>
  simp only[Bool.and_false,Bool.false_eq_true,if_false,Bool.false_and]
  rw[eE]
  have:=qw bm t i1
  unfold eQ at this
  rw[this,i8]
  rfl
 | true =>
  by_cases z:pk t i1=46
  ·have j:¬pk t i1=58:=by rw[z];decide
   simp only[i9 z,j5 j,Bool.true_or,Bool.true_and,Bool.and_true,Bool.and_false,if_true,Bool.false_eq_true,if_false,Bool.or_false]
   rw[eE]
   have:=qw bm t (i1+1+(aQ digit t (i1+1)).length)
   unfold eQ at this
   rw[this]
   rfl
  ·by_cases j:pk t i1=58
   ·simp only[i9 j,j5 z,Bool.false_or,Bool.true_and,Bool.and_true,if_true,Bool.false_eq_true,if_false,Bool.false_and]
    rw[eE]
    have:=qw bm t (i1+1+(aQ digit t (i1+1)).length)
    unfold eQ at this
    rw[this]
    rfl
   ·simp only[j5 j,j5 z,Bool.false_or,Bool.false_and,if_false,Bool.false_eq_true]
    rw[eE]
    have:=qw bm t i1
    unfold eQ at this
    rw[this,i8]
    rfl
end SB
end
section
namespace SB
open PySem PySem.Spec PyProof.Rows L2 XL
open Vbdeaa (Text Exp Exps Un Bin Ins digit letter wordSign blank numberToken digitsValue frac small)
variable {P:Program} {w:World} {K:PySem.W.Frag} {mg:Str→Option Value} {base:Heap}
noncomputable abbrev TK:=Vbdeaa.Tok
noncomputable def rB(s:Text):Str×V:=if s=[40]∨s=[41]∨s=[44]then("mark",.str (bD s))else("two",.int (dY.idxOf s:Nat))
noncomputable def cO(H:Hp):TK→Addr→Prop
 | .num q,a=>∃p,H a=some (.tup [.str "number",.ref p])∧H p=some (.tup [.int q.1,.int (q.2:Nat)])
 | .name n,a=>H a=some (.tup [.str "name",.str (bD n)])
 | .word n,a=>H a=some (.tup [.str "word",.str (bD n)])
 | .sign s,a=>H a=some (.tup [.str (rB s).1,(rB s).2])
 | .eof,a=>H a=some (.tup [.str "end",.str ""])
 | .bad,_=>False
theorem cO.same{H H':Hp}(s:aA H H'):∀{x:TK}{a:Addr},cO H x a→cO H' x a
 | .num q,a,⟨p,h1,h2⟩=>⟨p,s _ _ h1,s _ _ h2⟩
 | .name n,a,h=>s _ _ h
 | .word n,a,h=>s _ _ h
 | .sign n,a,h=>s _ _ h
 | .eof,a,h=>s _ _ h
structure mX (K:PySem.W.Frag) (Sc:Addr) (H:Hp) (sc:Addr) (M:List Addr) (t:Text) (i:Nat) (tks:List TK) (dx ls lt:Addr) (tas:List Addr):Prop where
 mem:M=[sc,lt]
 ne:sc≠lt
 at_:jK K Sc H sc dx ls lt t i
 sig:bZ K (off M H) ls (vI t)
 tl:H lt=some (.lst (tas.map V.ref))
 tks:Paired (cO (off M H)) tks tas
noncomputable def Nb(K:PySem.W.Frag)(Sc:Addr)(H:Hp)(sc:Addr)(M:List Addr)(t:Text)(i:Nat)(tks:List TK):Prop:=∃dx ls lt tas,mX K Sc H sc M t i tks dx ls lt tas
theorem mX.step{K:PySem.W.Frag}{Sc:Addr}{H H':Hp}{sc:Addr}{M:List Addr}{t:Text}{i j:Nat}{tks:List TK}{dx ls lt:Addr}{tas:List Addr}(D:mX K Sc H sc M t i tks dx ls lt tas)(G:bC sc H H')(h:jK K Sc H' sc dx ls lt t j):mX K Sc H' sc M t j tks dx ls lt tas∧aA (off M H) (off M H'):=by
 have F:aA (off M H) (off M H'):=fun b o q=>by
  have J:=oW q
  have L:b≠sc:=fun z=>J (by rw[D.mem,z];simp)
  exact gm (G _ _ (aU _ _ _ _ q) L) J
 exact⟨⟨D.mem,D.ne,h,fj F D.sig,G _ _ D.tl (Ne.symm D.ne),paired_same' D.tks F⟩,F⟩
where paired_same' {tks:List TK} {tas:List Addr} {G G':Hp} (h:Paired (cO G) tks tas) (s:aA G G'):Paired (cO G') tks tas:=cP h fun _ _ _ q=>q.same s
theorem iG{tks:List TK}{tas:List Addr}{G j:Hp}(h:Paired (cO G) tks tas)(s:aA G j):Paired (cO j) tks tas:=cP h fun _ _ _ q=>q.same s
theorem mX.app{K:PySem.W.Frag}{Sc:Addr}{H:Hp}{sc:Addr}{M:List Addr}{t:Text}{i:Nat}{tks:List TK}{dx ls lt:Addr}{tas:List Addr}(D:mX K Sc H sc M t i tks dx ls lt tas){x:TK}{a:Addr}(h:cO (off M H) x a) :
  mX K Sc (L2.upd H lt (.lst (tas.map V.ref++[V.ref a]))) sc M t i (tks++[x]) dx ls lt (tas++[a])∧off M (L2.upd H lt (.lst (tas.map V.ref++[V.ref a])))=off M H:=by
 have j:off M (L2.upd H lt (.lst (tas.map V.ref++[V.ref a])))=off M H:=sW (by rw[D.mem];simp)
 refine⟨⟨D.mem,D.ne,⟨by rw[az D.ne];exact D.at_.obj,?_,D.at_.few,D.at_.le⟩,by rw[j];exact D.sig,by rw[ak,kb];rfl,by rw[j];exact cu D.tks h⟩,j⟩
 have:=fj (aU M (L2.upd H lt (.lst (tas.map V.ref++[V.ref a])))) (by rw[j];exact D.sig)
 exact this
theorem mX.keep{K:PySem.W.Frag}{Sc:Addr}{H H':Hp}{sc:Addr}{M:List Addr}{t:Text}{i:Nat}{tks:List TK}{dx ls lt:Addr}{tas:List Addr}(D:mX K Sc H sc M t i tks dx ls lt tas)(s:aA H H'):mX K Sc H' sc M t i tks dx ls lt tas∧aA (off M H) (off M H'):=D.step (fun b o q _=>s b o q) ⟨s _ _ D.at_.obj,fj s D.at_.sig,D.at_.few,D.at_.le⟩
theorem lN{M:List Addr}{H:Hp}{a:Addr}{o:HO}(D:∀b∈M,∃o,H b=some o)(h:H a=none):off M (L2.upd H a o) a=some o:=by
 refine gm ak fun z=>?_
 obtain⟨o,j⟩:=D a z
 rw[h]at j
 cases j
theorem mX.there{K:PySem.W.Frag}{Sc:Addr}{H:Hp}{sc:Addr}{M:List Addr}{t:Text}{i:Nat}{tks:List TK}{dx ls lt:Addr}{tas:List Addr}(D:mX K Sc H sc M t i tks dx ls lt tas):∀b∈M,∃o,H b=some o:=fun b j=>by
 rw[D.mem]at j
 simp only[hU,List.mem_nil_iff,or_false]at j
 rcases j with rfl | rfl
 ·exact⟨_,D.at_.obj⟩
 ·exact⟨_,D.tl⟩
noncomputable abbrev oH:Stmt:=top 51
noncomputable def tZ:Sp:=fun vs H Q _=>∃(n:Int)(d:Nat),vs=[.int n,.int d]∧0<d∧d<2 ^ 8000∧∀t,H t=none→Q (.ref t) (L2.upd H t (.tup [.int (frac n d).1,.int ((frac n d).2:Nat)]))
theorem Pk{g:Nat}(h:g<2 ^ 8000):((g:Nat):Int).natAbs.log2<9000:=by
 rw[Int.natAbs_natCast]
 by_cases z:g=0
 ·rw[z];decide
 ·exact ic ((Nat.log2_lt z).mpr h) (by decide)
noncomputable def Ac(K:PySem.W.Frag)(Sc:Addr):Sp:=fun vs H Q _=>∃(sc dx ls lt:Addr)(t:Text)(i:Nat)(n:Int),vs=[.ref sc,.int n]∧jK K Sc H sc dx ls lt t i ∧
 ∀p H',H p=none→bC sc H H'→H' p=some (.tup [.int (dv n (aQ digit t i)),.int ((10 ^ (aQ digit t i).length:Nat):Int)])→jK K Sc H' sc dx ls lt t (i+(aQ digit t i).length)→Q (.ref p) H'
section
theorem yF:aK ["numerator","denominator","divisor"] ["numerator","denominator"] (aD oH):=⟨rfl,rfl,rfl,by decide +kernel,rfl,by decide +kernel,by decide +kernel⟩
theorem Gu{f O:Addr}{fd L:FuncData}(F:Fn K mg "lowest_terms" oH f fd ["numerator","denominator"])(j:mg "abs"=none)(z:Fn K mg "common_divisor" JW O L ["a","b"]):aF P w K mg base (aW P w) 2 f fd ["numerator","denominator"] tZ:=by
 have U:aF P w K mg base (aW P w) 1 O L ["a","b"] QB:=R1 z
 refine dZ F.F yF (fun vs H Q E h=>?_) (fun cdv A outer s H vs Q E S h=>?_)
 ·obtain⟨_,_,rfl,_⟩:=h
  rfl
 ·obtain⟨n,d,rfl,hd,Y,k⟩:=h
  refine⟨_,aq (bw (i:=2) yF.nd rfl (Or.inl rfl) (a_ U S rfl z.m z.F.kp z.b .nil passes (aj (bW Ms (by rfl) j (by decide +kernel) (aj (pv 0) au)) (aj (pv 1) au))))
   (ao (aV (bJ (aj (dw yR (pv 0) (pv 2)) (aj (dw yR (pv 1) (pv 2)) au))))),?_⟩
  have hg:0<Nat.gcd n.natAbs d:=Nat.gcd_pos_of_pos_right _ hd
  have D:Nat.gcd n.natAbs d≤d:=Nat.le_of_dvd hd (Nat.gcd_dvd_right _ _)
  have J:M7 n ((Nat.gcd n.natAbs d:Nat):Int):=⟨by lia,Pk (iO D Y)⟩
  have G:M7 (d:Int) ((Nat.gcd n.natAbs d:Nat):Int):=J
  refine⟨_,rfl,n,rfl,_,rfl,n.natAbs,d,?_,?_⟩
  ·have:(if n<0 then -n else n)=(n.natAbs:Int):=by split<;>omega
   rw[this]
   rfl
  ·exact⟨_,rfl,_,rfl,_,_,rfl,rfl,J,_,rfl,_,rfl,_,_,rfl,rfl,G,(by show 2≤sizeLine;decide),fun t Z=>by
    have:=k t Z
    rw[show(((frac n d).2:Nat):Int)=(d:Int) / ((Nat.gcd n.natAbs d:Nat):Int)from Int.natCast_ediv _ _]at this
    exact this⟩
theorem pR:aK ["self","whole","start","numerator","denominator","place"] ["self","whole"] (aD (bM 5)):=⟨rfl,rfl,rfl,by decide +kernel,rfl,by decide +kernel,by decide +kernel⟩
theorem Ol{f Y Sc:Addr}{fd dT:FuncData}(F:fc K "take_decimals" "Scanner.take_decimals" (bM 5) f fd)(T:jD K Sc)(U:Fm K Sc "take_digits" "Scanner.take_digits" (bM 4) Y dT ["self","number"])(GT:aF P w K mg base (aW P w) 2 Y dT ["self","number"] (wC K Sc))(j:mg "range"=none):aF P w K mg base (aW P w) 3 f fd ["self","whole"] (Ac K Sc):=by
 refine dZ F pR (fun vs H Q E h=>?_) (fun cdv A outer s H vs Q E Z h=>?_)
 ·obtain⟨_,_,_,_,_,_,_,rfl,_⟩:=h
  rfl
 ·obtain⟨sc,dx,ls,lt,t,i,n,rfl,D,k⟩:=h
  refine⟨_,aq (bw (i:=2) pR.nd rfl (Or.inl rfl) (aJ (pv 0) rfl))
   (aq (bw (i:=3) pR.nd rfl (Or.inl rfl) (bc (pv 0) T.cl U.me GT Z U.b .nil passes (aj (pv 1) au)))
   (aq (bw (i:=4) pR.nd rfl (Or.inl rfl) aB)
   (aq (uq rC rfl (Gk rfl j (aj (pv 2) (aj (aJ (pv 0) rfl) au))) (cX (i:=5) pR.nd rfl (Or.inl rfl)) (ao (bw (i:=4) pR.nd rfl (Or.inl rfl) (dw KH (pv 4) aB))))
   (ao (aV (bJ (aj (pv 3) (aj (pv 4) au)))))))),?_⟩
  refine⟨_,rfl,sc,Sc,dx,_,_,rfl,D.obj,T.cl,T.nA,rfl,?_⟩
  refine⟨_,rfl,sc,dx,_,rfl,D.obj,rfl,_,rfl,sc,dx,ls,lt,t,i,n,rfl,D,fun H1 S G=>?_⟩
  have hl:=dM (p:=digit) (t:=t) (i:=i)
  have hf:=D.few
  have aa:=D.le
  refine⟨_,rfl,_,rfl,sc,Sc,dx,_,_,rfl,G.obj,T.cl,T.nA,rfl,(i:Int),((i+(aQ digit t i).length:Nat):Int),rfl,⟨by omega,by omega,by omega,by omega⟩,?_⟩
  refine Hf (n:=(((i+(aQ digit t i).length:Nat):Int)-(i:Int)).toNat) (fun m σ H'=>∃v:Option V,σ=[some (.ref sc),some (.int n),some (.int (i:Nat)),some (.int (dv n (aQ digit t i))),some (.int ((10 ^ m:Nat):Int)),v]∧H'=H1) ⟨none,rfl,rfl⟩ ?_ ?_
  ·rintro m σ H' hm ⟨v,rfl,rfl⟩
   refine⟨_,rfl,_,_,rfl,rfl,.inr ⟨by decide,by decide⟩,some (.int (i+m)),?_,rfl⟩
   rw[Nat.pow_succ,Int.natCast_mul]
   rfl
  ·rintro σ H' ⟨v,rfl,rfl⟩
   rw[show(((i+(aQ digit t i).length:Nat):Int)-(i:Int)).toNat=(aQ digit t i).length by lia]
   refine⟨_,rfl,_,rfl,(by show 2≤sizeLine;decide),fun p J=>?_⟩
   have O:p≠sc:=fun z=>by rw[z,G.obj]at J;cases J
   have L:H p=none:=by
    cases e:H p with
    | none=>rfl
    | some o=>have:=S _ _ e O;rw[J]at this;cases this
   have sp:=aA.upd (o:=.tup [.int (dv n (aQ digit t i)),.int ((10 ^ (aQ digit t i).length:Nat):Int)]) J
   exact k p _ L (fun b o q hb=>sp _ _ (S _ _ q hb)) ak ⟨sp _ _ G.obj,fj sp G.sig,G.few,G.le⟩
end
end SB
end
section
namespace SB
open PySem PySem.Spec PyProof.Rows L2 XL
variable {P:Program} {w:World} {K:PySem.W.Frag} {mg:Str→Option Value} {base:Heap}
noncomputable abbrev wN:Stmt:=inClass (top 28) 0
noncomputable abbrev wQ:Stmt:=inClass (top 29) 0
noncomputable abbrev wO:Stmt:=inClass (top 30) 0
section
theorem Jq:aK ["self"] ["self"] (aD wN):=⟨rfl,rfl,rfl,by decide +kernel,rfl,by decide +kernel,by decide +kernel⟩
theorem KR{f z R:Addr}{fd j:FuncData}(F:fc K "__init__" "TextTooLong.__init__" wN f fd)(D:fc K "__init__" "Refusal.__init__" vd z j)(O:Binds K j ["self","number"] [])(J:mg "Refusal"=some (.ref R))(CR:h_ K R "__init__" z)(hex:mg "Exception"=none):aF P w K mg base (aW P w) 2 f fd ["self"] (Ny K (-5)):=by
 have GR:aF P w K mg base (aW P w) 1 z j _ _:=p_ D hex
 refine dZ F Jq (fun vs H Q E h=>?_) (fun cdv A outer s H vs Q E G h=>?_)
 ·obtain⟨_,_,rfl,_⟩:=h
  rfl
 ·obtain⟨x,C,rfl,hx,L,k⟩:=h
  refine⟨_,ao (aN (lK (b_ rfl J rfl) CR GR G O .nil passes (aj (pv 0) (aj (eN cW aB) au)))),?_⟩
  exact⟨_,rfl,_,rfl,x,C,-5,rfl,hx,L,k⟩
theorem Js:aK ["self"] ["self"] (aD wQ):=⟨rfl,rfl,rfl,by decide +kernel,rfl,by decide +kernel,by decide +kernel⟩
theorem K6{f z R:Addr}{fd j:FuncData}(F:fc K "__init__" "NoExpression.__init__" wQ f fd)(D:fc K "__init__" "Refusal.__init__" vd z j)(O:Binds K j ["self","number"] [])(J:mg "Refusal"=some (.ref R))(CR:h_ K R "__init__" z)(hex:mg "Exception"=none):aF P w K mg base (aW P w) 2 f fd ["self"] (Ny K (-6)):=by
 have GR:aF P w K mg base (aW P w) 1 z j _ _:=p_ D hex
 refine dZ F Js (fun vs H Q E h=>?_) (fun cdv A outer s H vs Q E G h=>?_)
 ·obtain⟨_,_,rfl,_⟩:=h
  rfl
 ·obtain⟨x,C,rfl,hx,L,k⟩:=h
  refine⟨_,ao (aN (lK (b_ rfl J rfl) CR GR G O .nil passes (aj (pv 0) (aj (eN cW aB) au)))),?_⟩
  exact⟨_,rfl,_,rfl,x,C,-6,rfl,hx,L,k⟩
theorem Jr:aK ["self"] ["self"] (aD wO):=⟨rfl,rfl,rfl,by decide +kernel,rfl,by decide +kernel,by decide +kernel⟩
theorem KY{f z R:Addr}{fd j:FuncData}(F:fc K "__init__" "TextTooHigh.__init__" wO f fd)(D:fc K "__init__" "Refusal.__init__" vd z j)(O:Binds K j ["self","number"] [])(J:mg "Refusal"=some (.ref R))(CR:h_ K R "__init__" z)(hex:mg "Exception"=none):aF P w K mg base (aW P w) 2 f fd ["self"] (Ny K (-7)):=by
 have GR:aF P w K mg base (aW P w) 1 z j _ _:=p_ D hex
 refine dZ F Jr (fun vs H Q E h=>?_) (fun cdv A outer s H vs Q E G h=>?_)
 ·obtain⟨_,_,rfl,_⟩:=h
  rfl
 ·obtain⟨x,C,rfl,hx,L,k⟩:=h
  refine⟨_,ao (aN (lK (b_ rfl J rfl) CR GR G O .nil passes (aj (pv 0) (aj (eN cW aB) au)))),?_⟩
  exact⟨_,rfl,_,rfl,x,C,-7,rfl,hx,L,k⟩
end
end SB
end
section
namespace SB
open PySem PySem.Spec PyProof.Rows L2 XL
open Vbdeaa (Text Exp Exps Un Bin Ins digit letter wordSign blank numberToken digitsValue frac small)
variable {P:Program} {w:World} {K:PySem.W.Frag} {mg:Str→Option Value} {base:Heap}
theorem Ek:∀(w:Text)(m:Nat),(∀c∈w,digit c=true)→w.foldl (fun n c=>10*n+(c-48).toNat) m<(m+1)*10 ^ w.length
 | [],m,_=>by simp
 | c::r,m,h=>by
  have j:=h c b'
  unfold Vbdeaa.digit at j
  have j:=jv j
  have:=Ek r (10*m+(c-48).toNat) fun d hd=>h d (am _ hd)
  rw[List.foldl_cons,cr,Nat.pow_succ]
  refine ic this ?_
  rw[Nat.mul_comm (10 ^ r.length) 10,←Nat.mul_assoc]
  exact Nat.mul_le_mul_right _ (by omega)
theorem Ih{k:Nat}(h:k≤1999):10 ^ k<2 ^ 8000:=by
 refine iO (Nat.pow_le_pow_left (show 10≤2 ^ 4 by decide) k) ?_
 rw[←Nat.pow_mul]
 exact Nat.pow_lt_pow_right (by decide) (by omega)
noncomputable def qI(t:Text)(i:Nat):Prop:=¬((bN t i).2.1=0∨eQ (pk t (bN t i).2.2)=true)∧small (frac ((bN t i).1:Nat) (bN t i).2.1)=true
theorem FQ{n d:Nat}(hd:0<d):small (frac (n:Nat) d)=(decide ((frac (n:Nat) d).1≤1000000000000000000)&&decide (((frac (n:Nat) d).2:Int)≤1000000000000000000)):=by
 have h1:1≤(frac (n:Nat) d).2:=Nat.div_pos (Nat.le_of_dvd hd (Nat.gcd_dvd_right _ _)) (Nat.gcd_pos_of_pos_right _ hd)
 have h0:0≤(frac (n:Nat) d).1:=Int.ediv_nonneg (by omega) (by omega)
 generalize frac (n:Nat) d=q at *
 have j:Vbdeaa.B=1000000000000000000:=by decide
 unfold Vbdeaa.small
 rw[j,i9 h1,Bool.true_and,i2,ia,ia,jI,jI,jI,jI]
 omega
structure CT (K:PySem.W.Frag) (mg:Str→Option Value):Prop where
 PT:GC K mg "POINT" (.i 46)
 CO:GC K mg "COLON" (.i 58)
 UN:GC K mg "UNDERSCORE" (.i 95)
 LA:GC K mg "LARGEST" (.i 1000000000000000000)
 BL:GC K mg "BLANKS" (tvs [32,9,10,13])
 LN:GC K mg "LONGEST_NAME" (.i 24)
noncomputable def wG(K:PySem.W.Frag)(Sc Ce:Addr):Sp:=fun vs H Q E=>∃(sc:Addr)(M:List Addr)(t:Text)(i:Nat)(tks:List TK),vs=[.ref sc]∧Nb K Sc H sc M t i tks∧tks.length≤2000 ∧
 (qI t i→∀H',Nb K Sc H' sc M t (bN t i).2.2 (tks++[.num (frac ((bN t i).1:Nat) (bN t i).2.1)])→aA (off M H) (off M H')→Q .non H')∧(¬qI t i→bz Ce (-6) (off M H) E)
section
theorem jf:aK ["self","whole","pair","behind"] ["self"] (aD (bM 6)):=⟨rfl,rfl,rfl,by decide +kernel,rfl,by decide +kernel,by decide +kernel⟩
theorem K5{f fP fD fL fT fB fU fW Sc Ce fI:Addr}{fd dP dD dL dT dB dU dW dI:FuncData}(F:fc K "scan_number" "Scanner.scan_number" (bM 6) f fd)(T:jD K Sc)(C:CT K mg)(X:XC P w K mg base "NoExpression" Ce fI dI (-6))
  (FP:Fm K Sc "peek" "Scanner.peek" (bM 1) fP dP ["self","ahead"]) (al:mg "len"=none) (FD:Fn K mg "is_letter" gQ fD dD ["sign"])
  (FT:Fm K Sc "take_digits" "Scanner.take_digits" (bM 4) fT dT ["self","number"]) (GT:aF P w K mg base (aW P w) 2 fT dT ["self","number"] (wC K Sc))
  (FB:Fm K Sc "digits_behind" "Scanner.digits_behind" (bM 3) fB dB ["self","sign"]) (GB:aF P w K mg base (aW P w) 2 fB dB ["self","sign"] (Ak K Sc))
  (FU:Fm K Sc "take_decimals" "Scanner.take_decimals" (bM 5) fU dU ["self","whole"]) (GU:aF P w K mg base (aW P w) 3 fU dU ["self","whole"] (Ac K Sc))
  (FW:Fn K mg "lowest_terms" oH fW dW ["numerator","denominator"]) (GW:aF P w K mg base (aW P w) 2 fW dW ["numerator","denominator"] tZ):aF P w K mg base (aW P w) 4 f fd ["self"] (wG K Sc Ce):=by
 have GP:aF P w K mg base (aW P w) 1 fP dP ["self","ahead"] (jR K Sc):=jl FP.F T al
 have GD:aF P w K mg base (aW P w) 1 fD dD ["sign"] jT:=lL FD
 refine dZ F jf (fun vs H Q E h=>?_) (fun cdv A outer s H vs Q E hr h=>?_)
 ·obtain⟨_,_,_,_,_,rfl,_⟩:=h
  rfl
 ·obtain⟨sc,M,t,i,tks,rfl,⟨dx,ls,lt,tas,D⟩,aw,k,kr⟩:=h
  have ax:bH 1 _:=hr.mono (by omega)
  have O:bH 2 _:=hr.mono (by omega)
  have tail:∃tr,zQ (eU (aW P w) P w K mg base ["self","whole","pair","behind"] "Scanner.scan_number" (aD (bM 6)) f cdv A outer s H E) ((eO (bM 6)).drop 3) tr ∧
    ∀(H2:Hp)(p:Addr)(v1:V),mX K Sc H2 sc M t (bN t i).2.2 tks dx ls lt tas→aA (off M H) (off M H2)→H2 p=some (.tup [.int ((bN t i).1:Nat),.int ((bN t i).2.1:Nat)])→(bN t i).2.1<2 ^ 8000→tr { nx:=fun _ H'=>Q .non H',rt:=Q } [some (.ref sc),some v1,some (.ref p),none] H2:=by
   refine⟨_,aq (bw (i:=3) jf.nd rfl (Or.inl rfl) (bc (pv 0) T.cl FP.me GP ax FP.b .nil passes (aj aB au)))
    (aq (aX (PW.pt (m_ (aG cz (b7 cY (pv 2) aB (fun _ _=>rfl)) aB (aL _)) (m_ (eG (a_ GD ax rfl FD.m FD.F.kp FD.b .nil passes (aj (pv 3) au))) (jV (aG iQ (pv 3) (bJ (aj (bu rfl C.UN) (aj (bu rfl C.PT) (aj (bu rfl C.CO) au)))) rfl)))))
      (ao (bO X.made X.cls X.ok hr rfl X.m X.b rfl bF)) aP)
    (aq (bw (i:=2) jf.nd rfl (Or.inl rfl) (a_ GW O rfl FW.m FW.F.kp FW.b .nil passes (aj (b7 cY (pv 2) aB (fun _ _=>rfl)) (aj (b7 cY (pv 2) aB (fun _ _=>rfl)) au))))
    (aq (aX (PW.pt (m_ (aG qG (b7 cY (pv 2) aB (fun _ _=>rfl)) (bu rfl C.LA) (aL _)) (jV (aG qG (b7 cY (pv 2) aB (fun _ _=>rfl)) (bu rfl C.LA) (aL _)))))
      (ao (bO X.made X.cls X.ok hr rfl X.m X.b rfl bF)) aP)
    (ao (aN (gC PySem.F.plainAttrs_list PySem.F.slot_list_append PySem.F.type_list_append gr (aJ (pv 0) rfl) (aj (bJ (aj bA (aj (pv 2) au))) au))))))),?_⟩
   intro H2 p v1 G sm hp aC
   have raise:∀H',aA H2 H'→¬qI t i→bz Ce (-6) H' E:=fun H' s' hn=>(kr hn).mono ((sm.trans (aU M H2)).trans s')
   refine⟨_,rfl,sc,dx,_,rfl,G.at_.obj,rfl,sc,dx,ls,lt,t,_,0,rfl,G.at_,?_⟩
   refine⟨_,rfl,p,_,_,_,rfl,rfl,cR.of hp,at_of (j:=1) rfl rfl,rfl,_,rfl,?_⟩
   have e0:decide (V.int ((bN t i).2.1:Nat)=V.int 0)=decide ((bN t i).2.1=0):=by
    rw[decide_eq_decide]
    exact⟨fun z=>by have:=V.int.inj z;omega,fun z=>by rw[z];rfl⟩
   rw[e0]
   by_cases h0:(bN t i).2.1=0
   ·rw[i9 h0]
    exact bh (bh (raise _ (aA.refl _) fun z=>z.1 (.inl h0)).go)
   rw[j5 h0]
   refine aR ⟨_,rfl,_,rfl,_,rfl,?_⟩
   rw[Nat.add_zero]
   cases hl:letter (pk t (bN t i).2.2)with
   | true=>exact bh (bh (raise _ (aA.refl _) fun z=>z.1 (.inr (by unfold eQ;rw[hl];rfl))).go)
   | false =>
    refine aR ⟨_,rfl,(by show 3≤sizeLine;decide),fun q hq=>⟨q,_,rfl,.inr (cR.of ak),rfl,rfl,_,rfl,?_⟩⟩
    have sq:aA H2 (L2.upd H2 q (.tup [.int 95,.int 46,.int 58])):=aA.upd hq
    have eb:inV (.int (pk t (bN t i).2.2)) [.int 95,.int 46,.int 58]=(pk t (bN t i).2.2==95||(pk t (bN t i).2.2==46||pk t (bN t i).2.2==58)):=by
     show(decide ((95:Int)=_)||(decide ((46:Int)=_)||(decide ((58:Int)=_)||false)))=_
     rw[Bool.or_false,Bool.beq_eq_decide_eq,Bool.beq_eq_decide_eq,Bool.beq_eq_decide_eq]
     congr 1
     ·exact decide_eq_decide.mpr eq_comm
     ·congr 1
      ·exact decide_eq_decide.mpr eq_comm
      ·exact decide_eq_decide.mpr eq_comm
    rw[show(if false=true then !inV (V.int (pk t (bN t i).2.2)) [.int 95,.int 46,.int 58]else inV (V.int (pk t (bN t i).2.2)) [.int 95,.int 46,.int 58])=inV (.int (pk t (bN t i).2.2)) [.int 95,.int 46,.int 58]from rfl,eb]
    cases hb:(pk t (bN t i).2.2==95||(pk t (bN t i).2.2==46||pk t (bN t i).2.2==58))with
    | true=>exact bh (raise _ sq fun z=>z.1 (.inr (by unfold eQ;rw[hl,hb];rfl))).go
    | false =>
     have ac:¬((bN t i).2.1=0∨eQ (pk t (bN t i).2.2)=true):=by
      rintro(z | z)
      ·exact h0 z
      ·unfold eQ at z
       rw[hl,hb]at z
       cases z
     have S:=sq _ _ hp
     refine aR ⟨_,rfl,p,_,_,_,rfl,rfl,cR.of S,at_of (j:=0) rfl rfl,_,rfl,p,_,_,_,rfl,rfl,cR.of S,at_of (j:=1) rfl rfl,((bN t i).1:Nat),(bN t i).2.1,rfl,by omega,aC,fun r av=>?_⟩
     have aE:=FQ (n:=(bN t i).1) (d:=(bN t i).2.1) (by omega)
     generalize ar:frac ((bN t i).1:Nat) (bN t i).2.1=fr at *
     have sr:aA (L2.upd H2 q (.tup [.int 95,.int 46,.int 58])) (L2.upd (L2.upd H2 q (.tup [.int 95,.int 46,.int 58])) r (.tup [.int fr.1,.int (fr.2:Nat)])):=aA.upd av
     have ai:(L2.upd (L2.upd H2 q (.tup [.int 95,.int 46,.int 58])) r (.tup [.int fr.1,.int (fr.2:Nat)])) r=some (.tup [.int fr.1,.int (fr.2:Nat)]):=ak
     refine⟨_,rfl,r,_,_,_,rfl,rfl,cR.of ai,at_of (j:=0) rfl rfl,_,_,rfl,rfl,_,rfl,?_⟩
     have ah:(¬fr.1≤1000000000000000000∨¬(fr.2:Int)≤1000000000000000000)→¬qI t i:=fun z y=>by
      have:=y.2
      rw[ar,aE,ia,jI,jI]at this
      omega
     by_cases g1:fr.1≤1000000000000000000
     ·rw[j5 (by omega)]
      refine aR ⟨_,rfl,r,_,_,_,rfl,rfl,cR.of ai,at_of (j:=1) rfl rfl,_,_,rfl,rfl,_,rfl,?_⟩
      by_cases g2:(fr.2:Int)≤1000000000000000000
      ·rw[j5 (by omega)]
       refine aR ?_
       have hok:qI t i:=⟨ac,by rw[ar,aE,i9 g1,i9 g2];rfl⟩
       obtain⟨D3,aS⟩:=G.keep (sq.trans sr)
       refine⟨_,rfl,sc,Sc,dx,_,_,rfl,D3.at_.obj,T.cl,T.nT,rfl,.inl ⟨rfl,_,bZ.of D3.tl⟩,_,rfl,(by show 2≤sizeLine;decide),fun a ha=>?_⟩
       obtain⟨Z,L⟩:=D3.keep (aA.upd (o:=.tup [.str "number",.ref r]) ha)
       have a3:cO (off M (L2.upd (L2.upd (L2.upd H2 q (.tup [.int 95,.int 46,.int 58])) r (.tup [.int fr.1,.int (fr.2:Nat)])) a (.tup [.str "number",.ref r]))) (.num fr) a:=by
        refine⟨r,lN D3.there ha,L _ _ (lN (G.keep sq).1.there av)⟩
       obtain⟨D5,a0⟩:=Z.app a3
       refine⟨lt,_,_,rfl,rfl,Z.tl,?_,?_⟩
       ·rw[ap,←Paired.length Z.tks]
        exact iO aw (by decide)
       ·refine k hok _ ⟨dx,ls,lt,tas++[a],?_⟩ ?_
        ·exact D5
        ·rw[a0];exact(sm.trans aS).trans L
      ·rw[i9 (by omega)]
       exact bh (raise _ (sq.trans sr) (ah (.inr g2))).go
     ·rw[i9 (by omega)]
      exact bh (bh (raise _ (sq.trans sr) (ah (.inl g1))).go)
  obtain⟨tr,aa,tail⟩:=tail
  refine⟨_,aq (bw (i:=1) jf.nd rfl (Or.inl rfl) (bc (pv 0) T.cl FT.me GT O FT.b .nil passes (aj aB au)))
   (aq (bw (i:=2) jf.nd rfl (Or.inl rfl) (bJ (aj (pv 1) (aj aB au))))
   (aq (aX (eG (bc (pv 0) T.cl FB.me GB O FB.b .nil passes (aj (bu rfl C.PT) au)))
     (aq (cH (pv 0) aB gD) (ao (bw (i:=2) jf.nd rfl (Or.inl rfl) (bc (pv 0) T.cl FU.me GU hr FU.b .nil passes (aj (pv 1) au)))))
     (ao (aX (eG (bc (pv 0) T.cl FB.me GB O FB.b .nil passes (aj (bu rfl C.CO) au)))
      (aq (cH (pv 0) aB gD) (ao (bw (i:=2) jf.nd rfl (Or.inl rfl) (bJ (aj (pv 1) (aj (bc (pv 0) T.cl FT.me GT O FT.b .nil passes (aj aB au)) au))))))
      aP))) aa)),?_⟩
  have hw:∀c∈aQ digit t i,digit c=true:=lH
  have bb:=dM (p:=digit) (t:=t) (i:=i)
  have bg:=D.at_.few
  have be:=D.at_.le
  have ag:dv 0 (aQ digit t i)=(digitsValue (aQ digit t i):Nat):=xP _ 0 hw
  refine⟨_,rfl,sc,dx,_,rfl,D.at_.obj,rfl,sc,dx,ls,lt,t,i,0,rfl,D.at_,fun H1 aT A1=>?_⟩
  obtain⟨D1,a7⟩:=D.step aT A1
  refine⟨_,rfl,(by show 2≤sizeLine;decide),fun p hp=>?_⟩
  obtain⟨G,ba⟩:=D1.keep (aA.upd (o:=.tup [.int (dv 0 (aQ digit t i)),.int 1]) hp)
  have a4:(L2.upd H1 p (.tup [.int (dv 0 (aQ digit t i)),.int 1])) p=some (.tup [.int (dv 0 (aQ digit t i)),.int 1]):=ak
  generalize bd:L2.upd H1 p (.tup [.int (dv 0 (aQ digit t i)),.int 1])=H2 at *
  generalize a9:i+(aQ digit t i).length=i1 at *
  have U:=a7.trans ba
  have J:bN t i=if(decide (pk t i1=46)&&digit (pk t (i1+1)))=true then(digitsValue (aQ digit t i++aQ digit t (i1+1)),10 ^ (aQ digit t (i1+1)).length,i1+1+(aQ digit t (i1+1)).length)
    else if(decide (pk t i1=58)&&digit (pk t (i1+1)))=true then(digitsValue (aQ digit t i),digitsValue (aQ digit t (i1+1)),i1+1+(aQ digit t (i1+1)).length)
    else(digitsValue (aQ digit t i),1,i1):=by
   unfold bN
   simp only[a9]
  have bf:=dM (p:=digit) (t:=t) (i:=i1+1)
  have hf:∀c∈aQ digit t (i1+1),digit c=true:=lH
  refine⟨_,rfl,sc,dx,_,rfl,G.at_.obj,rfl,sc,dx,ls,lt,t,i1,46,rfl,G.at_,_,rfl,?_⟩
  have ay:digit (pk t (i1+1))=true→jK K Sc (L2.upd H2 sc (.ins Sc dx (Gd ls (i1+1) lt))) sc dx ls lt t (i1+1)∧bC sc H2 (L2.upd H2 sc (.ins Sc dx (Gd ls (i1+1) lt)))∧i1+1<t.length:=fun hd=>by
   have:=(eF iT hd).2
   have sx:bC sc H2 (L2.upd H2 sc (.ins Sc dx (Gd ls (i1+1) lt))):=bC.wk fun _ _ q _=>q
   exact⟨G.at_.upd sx ak (by omega),sx,this⟩
  cases hA:(decide (pk t i1=46)&&digit (pk t (i1+1)))with
  | true =>
   rw[hA,j4 rfl]at J
   have ae:digit (pk t (i1+1))=true:=by rw[ia]at hA;exact hA.2
   obtain⟨A3,Y,a8⟩:=ay ae
   refine bh ⟨_,rfl,sc,Sc,dx,_,_,rfl,G.at_.obj,T.cl,T.nA,rfl,_,_,rfl,rfl,dx,_,G.at_.obj,(by show 3<1000;decide),?_⟩
   refine⟨_,rfl,sc,dx,_,rfl,ak,rfl,_,rfl,sc,dx,ls,lt,t,i1+1,_,rfl,A3,fun p2 H4 S af a6 A4=>?_⟩
   obtain⟨Z,L⟩:=G.step (Y.trans af) A4
   refine tail H4 p2 _ (by rw[J];exact Z) (U.trans L) ?_ (by rw[J];exact Ih (by omega))
   rw[a6,J,ag,xP _ _ hf]
   show some (HO.tup [.int _,_])=some (HO.tup [.int ((digitsValue (aQ digit t i++aQ digit t (i1+1)):Nat):Int),_])
   rw[show digitsValue (aQ digit t i++aQ digit t (i1+1))=(aQ digit t (i1+1)).foldl (fun n c=>10*n+(c-48).toNat) (digitsValue (aQ digit t i))from List.foldl_append ..]
  | false =>
   rw[hA]at J
   simp only[Bool.false_eq_true,if_false]at J
   refine aR ⟨_,rfl,sc,dx,_,rfl,G.at_.obj,rfl,sc,dx,ls,lt,t,i1,58,rfl,G.at_,_,rfl,?_⟩
   cases hB:(decide (pk t i1=58)&&digit (pk t (i1+1)))with
   | true =>
    rw[hB,j4 rfl]at J
    have ae:digit (pk t (i1+1))=true:=by rw[ia]at hB;exact hB.2
    obtain⟨A3,Y,a8⟩:=ay ae
    refine bh ⟨_,rfl,sc,Sc,dx,_,_,rfl,G.at_.obj,T.cl,T.nA,rfl,_,_,rfl,rfl,dx,_,G.at_.obj,(by show 3<1000;decide),?_⟩
    refine⟨_,rfl,_,rfl,sc,dx,_,rfl,ak,rfl,sc,dx,ls,lt,t,i1+1,0,rfl,A3,fun H4 af A4=>⟨(by show 2≤sizeLine;decide),fun p2 S=>?_⟩⟩
    obtain⟨Z,L⟩:=G.step (Y.trans af) A4
    obtain⟨D5,aI⟩:=Z.keep (aA.upd (o:=.tup [.int (dv 0 (aQ digit t i)),.int (dv 0 (aQ digit t (i1+1)))]) S)
    have a5:dv 0 (aQ digit t (i1+1))=(digitsValue (aQ digit t (i1+1)):Nat):=xP _ 0 hf
    refine tail _ p2 _ (by rw[J];exact D5) ((U.trans L).trans aI) ?_ ?_
    ·rw[ak,J,ag,a5]
    ·rw[J]
     have:=Ek (aQ digit t (i1+1)) 0 hf
     rw[Nat.zero_add,Nat.one_mul]at this
     exact Nat.lt_trans this (Ih (by omega))
   | false =>
    rw[hB]at J
    simp only[Bool.false_eq_true,if_false]at J
    refine aR ?_
    refine tail H2 p _ (by rw[J];exact G) U ?_ (by rw[J];exact Nat.one_lt_two_pow (by decide))
    rw[a4,J,ag]
    rfl
end
end SB
end
section
namespace SB
open PySem PySem.Spec PyProof.Rows L2 XL
open Vbdeaa (Text Exp Exps Un Bin Ins digit letter wordSign blank)
open TL (tl)
variable {P:Program} {w:World} {K:PySem.W.Frag} {mg:Str→Option Value} {base:Heap}
noncomputable abbrev ABC:Str:="abcdefghijklmnopqrstuvwxyz"
theorem QK{X:Cx}{x:Str}{n:Str}{pos:Pos}(D:Gl X x)(z:GC X.K X.mg x (.s n))(hd:(x==("__debug__" : Str))=false:=by decide):PE X (.Name x pos) (tC (.str n)):=by
 obtain⟨u,v,e,r,j⟩:=z
 cases j.str
 exact b_ D e r hd
theorem Mj:((List.range 10).all fun i=>decide (u9 ((i:Nat):Int)=(⟨#[48+i]⟩:Str)))=true:=by decide +kernel
theorem Fb:((List.range 26).all fun i=>decide (ABC.cps.toList[i]?=some (97+i))&&decide (Txt.upper ⟨#[97+i]⟩=(⟨#[65+i]⟩:Str)))=true:=by decide +kernel
theorem Fd:ABC.length≤sizeLine:=by decide +kernel
theorem ww{c:Int}{n:Nat}(h:c=(n:Nat)):bD [c]=(⟨#[n]⟩:Str):=by
 subst h
 rfl
noncomputable def Di:Sp:=fun vs H Q _=>∃c:Int,vs=[.int c]∧wordSign c=true∧Q (.str (bD [c])) H
noncomputable abbrev JP:Stmt:=top 64
theorem CZ:wordSign (-1)=false:=by decide
theorem yj{c:Int}(h:wordSign c=true):(digit c=true∧48≤c∧c≤57)∨(digit c=false∧c=95)∨(digit c=false∧c≠95∧97≤c∧c≤122)∨(digit c=false∧c≠95∧65≤c∧c≤90):=by
 unfold Vbdeaa.wordSign at h
 rw[vN,digit_eq]at h
 rw[digit_eq]
 simp only[Bool.or_eq_true,ia,jI,beq_iff_eq,Bool.and_eq_false_iff,decide_eq_false_iff_not]at h ⊢
 omega
theorem join_one:∀(w:Text),tl (Txt.join "" (w.map fun c=>bD [c]))=w.map Int.toNat:=by
 intro w
 rw[TL.Pz,TL.De]
 have:∀(l:List (List Nat)),TL.zg (tl "") l=l.flatten:=by
  intro l
  induction l with
  | nil=>rfl
  | cons p r j =>
   cases r with
   | nil=>show p=[p].flatten;simp
   | cons q r=>show p++([]++TL.zg (tl "") (q::r))=_;rw[j];rfl
 rw[this,List.map_map]
 induction w with
 | nil=>rfl
 | cons c r j=>rw[i6,List.flatten_cons,j];rfl
theorem Ig{a b:Str}(h:tl a=tl b):a=b:=by
 obtain⟨⟨a⟩⟩:=a
 obtain⟨⟨b⟩⟩:=b
 have:a=b:=h
 rw[this]
theorem Py(w:Text):Txt.join "" (w.map fun c=>bD [c])=bD w:=Ig (by rw[join_one,i_])
noncomputable def IV(K:PySem.W.Frag)(Sc:Addr):Sp:=fun vs H Q _=>∃(sc dx ls lt:Addr)(t:Text)(i:Nat),vs=[.ref sc]∧jK K Sc H sc dx ls lt t i ∧
 ∀H',bC sc H H'→jK K Sc H' sc dx ls lt t (i+(aQ wordSign t i).length)→Q (.str (bD (aQ wordSign t i))) H'
section
theorem T_:aK ["sign"] ["sign"] (aD JP):=⟨rfl,rfl,rfl,by decide +kernel,rfl,by decide +kernel,by decide +kernel⟩
theorem RT{f O:Addr}{fd J:FuncData}(F:Fn K mg "name_sign_text" JP f fd ["sign"])(G:Fn K mg "is_digit" jh O J ["sign"])(C:CT K mg)(L:GC K mg "SMALL_LETTERS" (.s ABC))(D:mg "str"=none):aF P w K mg base (aW P w) 2 f fd ["sign"] Di:=by
 have S:aF P w K mg base (aW P w) 1 O J ["sign"] lG:=j0 G
 refine dZ F.F T_ (fun vs H Q E h=>?_) (fun cdv A outer s H vs Q E U h=>?_)
 ·obtain⟨_,rfl,_⟩:=h
  rfl
 ·obtain⟨c,rfl,Y,k⟩:=h
  refine⟨_,aq (aX (eG (a_ S U rfl G.m G.F.kp G.b .nil passes (aj (pv 0) au))) (ao (aV (iJ pA (by rfl) D (by decide +kernel) (aj (dw uz (pv 0) aB) au)))) aP)
   (aq (aX (aG cz (pv 0) (bu rfl C.UN) (aL _)) (ao (aV bA)) aP)
   (aq (aX (aG qH (pv 0) aB (aL _)) (ao (aV (b7 Lw (QK rfl L) (dw uz (pv 0) aB) (fun _ _=>rfl)))) aP)
   (ao (aV (Be PySem.F.plainAttrs_str PySem.F.slot_str_upper PySem.F.type_str_upper Le (b7 Lw (QK rfl L) (dw uz (pv 0) aB) (fun _ _=>rfl))))))),?_⟩
  refine⟨_,rfl,c,rfl,_,rfl,?_⟩
  rcases yj Y with⟨hd,h1,h2⟩ | ⟨hd,h1⟩ | ⟨hd,h0,h1,h2⟩ | ⟨hd,h0,h1,h2⟩
  ·rw[hd]
   refine bh ⟨_,rfl,_,_,rfl,rfl,_,rfl,?_,?_⟩
   ·exact iO (Nat.log2_le_self _) (by omega)
   ·obtain⟨n,j⟩:=Int.eq_ofNat_of_zero_le (show 0≤c-48 by omega)
    have:=jv (j6.mp Mj n (ka.mpr (by omega)))
    rw[ww (n:=48+n) (by omega),←this]at k
    rw[j]
    exact k
  ·rw[hd]
   subst h1
   exact aR ⟨_,rfl,rfl,_,rfl,bh k⟩
  ·rw[hd]
   refine aR ⟨_,rfl,rfl,_,rfl,?_⟩
   rw[j5 (fun z=>h0 (V.int.inj z))]
   refine aR ⟨_,rfl,_,_,rfl,rfl,_,rfl,?_⟩
   rw[i9 h1]
   obtain⟨n,j⟩:=Int.eq_ofNat_of_zero_le (show 0≤c-97 by omega)
   have:=j6.mp Fb n (ka.mpr (by omega))
   rw[ia,jI,jI]at this
   refine bh ⟨_,rfl,_,_,rfl,rfl,ABC,_,97+n,rfl,rfl,Fd,?_,?_⟩
   ·rw[j]
    exact jx this.1
   ·rw[ww (n:=97+n) (by omega)]at k
    exact k
  ·rw[hd]
   refine aR ⟨_,rfl,rfl,_,rfl,?_⟩
   rw[j5 (fun z=>h0 (V.int.inj z))]
   refine aR ⟨_,rfl,_,_,rfl,rfl,_,rfl,?_⟩
   rw[j5 (by omega)]
   obtain⟨n,j⟩:=Int.eq_ofNat_of_zero_le (show 0≤c-65 by omega)
   have:=j6.mp Fb n (ka.mpr (by omega))
   rw[ia,jI,jI]at this
   refine aR ⟨_,rfl,_,_,rfl,rfl,ABC,_,97+n,rfl,rfl,Fd,?_,?_⟩
   ·rw[j]
    exact jx this.1
   ·refine⟨rfl,_,rfl,rfl,(by show 1≤_;decide),?_⟩
    rw[this.2]
    rw[ww (n:=65+n) (by omega)]at k
    exact k
theorem Dk:aK ["self","start","sign"] ["self"] (aD (bM 7)):=⟨rfl,rfl,rfl,by decide +kernel,rfl,by decide +kernel,by decide +kernel⟩
theorem RM{f fP fN fS Sc:Addr}{fd dP dN dS:FuncData}(F:fc K "take_name_signs" "Scanner.take_name_signs" (bM 7) f fd)(T:jD K Sc)(FP:Fm K Sc "peek" "Scanner.peek" (bM 1) fP dP ["self","ahead"])(S:mg "len"=none)
  (FN:Fn K mg "is_name_sign" ul fN dN ["sign"]) (GN:aF P w K mg base (aW P w) 2 fN dN ["sign"] wB) (FS:Fn K mg "name_sign_text" JP fS dS ["sign"]) (GS:aF P w K mg base (aW P w) 2 fS dS ["sign"] Di):aF P w K mg base (aW P w) 3 f fd ["self"] (IV K Sc):=by
 have GP:aF P w K mg base (aW P w) 1 fP dP ["self","ahead"] (jR K Sc):=jl FP.F T S
 refine dZ F Dk (fun vs H Q E h=>?_) (fun cdv A outer s H vs Q E hr h=>?_)
 ·obtain⟨_,_,_,_,_,_,rfl,_⟩:=h
  rfl
 ·obtain⟨sc,dx,ls,lt,t,i,rfl,D,k⟩:=h
  have aa:bH 1 _:=hr.mono (by omega)
  refine⟨_,aq (bw (i:=1) Dk.nd rfl (Or.inl rfl) (aJ (pv 0) rfl))
   (aq (gB rC (eG (a_ GN hr rfl FN.m FN.F.kp FN.b .nil passes (aj (bc (pv 0) T.cl FP.me GP aa FP.b .nil passes (aj aB au)) au)))
    (ao (cH (pv 0) aB gD)))
   (ao (aV (gC PySem.F.plainAttrs_str PySem.F.slot_str_join PySem.F.type_str_join Pg bA (aj (yO (own:=[("sign",2)]) (te:=qC Di [] E0 (aZ (pP 2) cZ)) rfl Dk.nd (jj (jZ rY (aJ (pv 0) rfl) (gU (pv 1)) (gU (aJ (pv 0) rfl)))) (iY (by kernel_rfl))
     (fun _ _ _ _ _=>by exact cX (i:=2) Dk.nd rfl (Or.inl rfl)) (fun _ _ _ _ _=>by exact lJ) (fun _ _ _ _ _=>by exact a_ GS hr rfl FS.m FS.F.kp FS.b .nil RJ (aj (pv 2) au))) au))))),?_⟩
  refine⟨_,rfl,sc,Sc,dx,_,_,rfl,D.obj,T.cl,T.nA,rfl,?_⟩
  refine⟨fun m σ H'=>∃j:Nat,σ=[some (.ref sc),some (.int (i:Nat)),none]∧m=t.length-j∧bC sc H H'∧jK K Sc H' sc dx ls lt t j∧i+(aQ wordSign t i).length=j+(aQ wordSign t j).length,
   ⟨_,i,rfl,rfl,fun _ _ q _=>q,D,rfl⟩,?_⟩
  rintro m σ H' ⟨j,rfl,rfl,sx,z,e2⟩
  refine⟨_,rfl,sc,dx,_,rfl,z.obj,rfl,sc,dx,ls,lt,t,j,0,rfl,z,_,rfl,_,rfl,?_⟩
  rw[Nat.add_zero]
  cases hd:wordSign (pk t j)with
  | true =>
   obtain⟨r1,r2⟩:=eF CZ hd
   refine bh ⟨fun σ' J=>∃Z:Nat,σ'=[some (.ref sc),some (.int (i:Nat)),none]∧t.length-Z<t.length-j∧bC sc H J∧jK K Sc J sc dx ls lt t Z∧i+(aQ wordSign t i).length=Z+(aQ wordSign t Z).length,fun σ' J ⟨j,h1,h2,h3⟩=>⟨_,h2,j,h1,rfl,h3⟩,?_⟩
   refine⟨_,rfl,sc,Sc,dx,_,_,rfl,z.obj,T.cl,T.nA,rfl,_,_,rfl,rfl,dx,_,z.obj,(by show 3<1000;decide),?_⟩
   have U:bC sc H' (L2.upd H' sc (.ins Sc dx (Gd ls (j+1) lt))):=bC.wk fun _ _ q _=>q
   refine⟨j+1,rfl,by omega,sx.trans U,z.upd U ak r2,?_⟩
   rw[e2,r1,cr]
   omega
  | false =>
   have r0:=Dr hd
   rw[r0]at e2
   have hj:j=i+(aQ wordSign t i).length:=by simpa using e2.symm
   subst hj
   have ac:=dM (p:=wordSign) (t:=t) (i:=i)
   have ag:=D.few
   have ae:=D.le
   refine aR ⟨rfl,_,rfl,sc,Sc,dx,_,_,rfl,z.obj,T.cl,T.nS,rfl,_,rfl,_,rfl,_,rfl,sc,Sc,dx,_,_,rfl,z.obj,T.cl,T.nA,rfl,_,rfl,ls,_,rfl,z.sig,fun p hp=>⟨p,rfl,⟨_,bZ.of ak⟩,fun L hL=>?_⟩⟩
   have Y:nW (vI t) (some ((i:Nat):Int)) (some ((i+(aQ wordSign t i).length:Nat):Int))=vI (aQ wordSign t i):=by
    rw[Eo,Dc,C_]
    congr 1
    have:t.drop i=aQ wordSign t i++(t.drop i).dropWhile wordSign:=List.takeWhile_append_dropWhile.symm
    rw[this,List.take_left]
   rw[Y]at hL ⊢
   have sp:aA H' (L2.upd H' p (.lst (vI (aQ wordSign t i)))):=aA.upd hp
   refine lV (K:=K) (a:=p) (xs:=vI (aQ wordSign t i)) (fun m H2=>aA (L2.upd H' p (.lst (vI (aQ wordSign t i)))) H2∧H2 L=some (.lst (((aQ wordSign t i).take m).map fun c=>V.str (bD [c])))) ⟨aA.upd hL,ak⟩ (fun m H2 _ ⟨s1,_⟩=>bZ.of (s1 _ _ ak)) ?_ ?_
   ·rintro m y H2 O ⟨s1,G⟩
    rw[H_]at O
    obtain⟨c,hc,rfl⟩:∃c,(aQ wordSign t i)[m]?=some c∧y=.int c:=by
     cases e:(aQ wordSign t i)[m]? with
     | none=>rw[e]at O;cases O
     | some c=>rw[e]at O;exact⟨c,rfl,(Option.some.inj O).symm⟩
    have af:=(hZ.mp hc).1
    refine⟨rfl,_,rfl,c,rfl,lH c (j' hc),_,G,?_,?_,?_⟩
    ·rw[ap,ij]
     exact iO (Nat.min_le_left _ _) (ic (by omega:m<2000) (by decide))
    ·intro b o q
     rw[az (aH q hL)]
     exact s1 _ _ q
    ·rw[ak,List.take_succ,hc,kb]
     rfl
   ·rintro H2 ⟨s1,G⟩
    rw[cT,List.take_length]at G
    refine⟨"",L,(aQ wordSign t i).map fun c=>bD [c],rfl,rfl,.inl ?_,?_,?_⟩
    ·rw[List.map_map]
     exact bZ.of G
    ·have e1:(((aQ wordSign t i).map fun c=>bD [c]).map (·.length)).sum≤2000:=by
      rw[List.map_map]
      have:∀l:Text,(l.map ((fun(x:Str)=>x.length) ∘ fun c=>bD [c])).sum=l.length:=by
       intro l
       induction l with
       | nil=>rfl
       | cons c r ih=>rw[i6,List.sum_cons,ih,cr];show 1+r.length=_;omega
      rw[this]
      omega
     rw[ap]
     show _+(aQ wordSign t i).length*0≤_
     omega
    ·rw[Py]
     have s2:=sp.trans s1
     exact k H2 (fun b o q hb=>s2 _ _ (sx _ _ q hb)) ⟨s2 _ _ z.obj,fj s2 z.sig,z.few,z.le⟩
end
theorem GX:letter (-1)=false:=by decide
noncomputable def j8(t:Text)(i:Nat):Text×Nat :=
 let w:=aQ wordSign t i
 let i1:=i+w.length
 if(decide (pk t i1=46)&&letter (pk t (i1+1)))=true then(w++46::aQ wordSign t (i1+1),i1+1+(aQ wordSign t (i1+1)).length)else(w,i1)
theorem Uv(t:Text)(i:Nat):Vbdeaa.nameOf (t.drop i)=(j8 t i).1∧(j8 t i).2=i+(j8 t i).1.length:=by
 unfold Vbdeaa.nameOf j8
 simp only
 rw[uo]
 have G:(t.drop i).takeWhile wordSign=aQ wordSign t i:=rfl
 rw[G]
 generalize D:i+(aQ wordSign t i).length=i1
 have e1:((t.drop i1).drop 1)=t.drop (i1+1):=by rw[List.drop_drop]
 rw[e1,eE,eE,qw GX]
 have F:(t.drop (i1+1)).takeWhile wordSign=aQ wordSign t (i1+1):=rfl
 rw[F]
 have j:(t[i1]?=some 46)↔pk t i1=46:=by
  have:=Mg (c:=46) (by decide) t i1
  rw[i2,beq_iff_eq,jI]at this
  exact this
 by_cases h:pk t i1=46∧letter (pk t (i1+1))=true
 ·rw[j4 ⟨j.mpr h.1,h.2⟩,j4 (by rw[ia,jI];exact h)]
  refine⟨rfl,?_⟩
  rw[gc,cr]
  omega
 ·rw[js (fun z=>h ⟨j.mp z.1,z.2⟩),js (by rw[ia,jI];exact h)]
  exact⟨rfl,D.symm⟩
theorem yW{t:Text}{i:Nat}:∀c∈(j8 t i).1,wordSign c=true∨c=46:=by
 intro c j
 unfold j8 at j
 simp only at j
 split at j
 ·rcases List.mem_append.mp j with j | j
  ·exact .inl (lH c j)
  ·rcases hU.mp j with j | j
   ·exact .inr j
   ·exact .inl (lH c j)
 ·exact .inl (lH c j)
theorem HD{c:Int}(h:wordSign c=true∨c=46):(48≤c∧c≤57)∨(65≤c∧c≤90)∨c=95∨(97≤c∧c≤122)∨c=46:=by
 rcases h with h | h
 ·rcases yj h with⟨_,h⟩ | ⟨_,h⟩ | ⟨_,_,h⟩ | ⟨_,_,h⟩<;>omega
 ·omega
noncomputable abbrev u0:List Str:=["and","or","not","if","then","else","floor","ceil","abs","sign","num","den","min","max"]
theorem HJ:u0.map Dh=Vbdeaa.WORDS:=by decide +kernel
theorem HH:Vbdeaa.WORDS.map bD=u0:=by decide +kernel
theorem in_words{n:Text}(h:∀c∈n,0≤c):inV (.str (bD n)) (u0.map V.str)=decide (n∈Vbdeaa.WORDS):=by
 rw[i2,jI]
 unfold inV
 rw[List.any_eq_true]
 constructor
 ·rintro⟨v,D,e⟩
  obtain⟨s,j,rfl⟩:=List.mem_map.mp D
  have e:s=bD n:=jv e
  rw[←HJ]
  refine List.mem_map.mpr ⟨s,j,?_⟩
  rw[e,Iz h]
 ·intro z
  refine⟨.str (bD n),List.mem_map.mpr ⟨bD n,by rw[←HH];exact List.mem_map.mpr ⟨n,z,rfl⟩,rfl⟩,?_⟩
  exact i9 rfl
noncomputable def qJ(n:Text):TK:=if n∈Vbdeaa.WORDS then .word n else .name n
noncomputable def tY(K:PySem.W.Frag)(Sc Ce:Addr):Sp:=fun vs H Q E=>∃(sc:Addr)(M:List Addr)(t:Text)(i:Nat)(tks:List TK),vs=[.ref sc]∧Nb K Sc H sc M t i tks∧tks.length≤2000 ∧
 ((j8 t i).1.length≤24→∀H',Nb K Sc H' sc M t (j8 t i).2 (tks++[qJ (j8 t i).1])→aA (off M H) (off M H')→Q .non H')∧(24<(j8 t i).1.length→bz Ce (-6) (off M H) E)
section
theorem uf:aK ["self","name"] ["self"] (aD (bM 8)):=⟨rfl,rfl,rfl,by decide +kernel,rfl,by decide +kernel,by decide +kernel⟩
theorem Gs{f fP fL fT Sc Ce fI:Addr}{fd dP dL dT dI:FuncData}(F:fc K "scan_name" "Scanner.scan_name" (bM 8) f fd)(T:jD K Sc)(C:CT K mg)(hW:GC K mg "WORDS" (Fj u0))(X:XC P w K mg base "NoExpression" Ce fI dI (-6))
  (FP:Fm K Sc "peek" "Scanner.peek" (bM 1) fP dP ["self","ahead"]) (O:mg "len"=none) (FL:Fn K mg "is_letter" gQ fL dL ["sign"])
  (FT:Fm K Sc "take_name_signs" "Scanner.take_name_signs" (bM 7) fT dT ["self"]) (GT:aF P w K mg base (aW P w) 3 fT dT ["self"] (IV K Sc)):aF P w K mg base (aW P w) 4 f fd ["self"] (tY K Sc Ce):=by
 have GP:aF P w K mg base (aW P w) 1 fP dP ["self","ahead"] (jR K Sc):=jl FP.F T O
 have GL:aF P w K mg base (aW P w) 1 fL dL ["sign"] jT:=lL FL
 refine dZ F uf (fun vs H Q E h=>?_) (fun cdv A outer s H vs Q E hr h=>?_)
 ·obtain⟨_,_,_,_,_,rfl,_⟩:=h
  rfl
 ·obtain⟨sc,M,t,i,tks,rfl,⟨dx,ls,lt,tas,D⟩,aa,k,kr⟩:=h
  have Y:bH 1 _:=hr.mono (by omega)
  have nn:∀c∈(j8 t i).1,0≤c:=fun c hc=>by have:=HD (yW c hc);omega
  have tail:∃tr,zQ (eU (aW P w) P w K mg base ["self","name"] "Scanner.scan_name" (aD (bM 8)) f cdv A outer s H E) ((eO (bM 8)).drop 2) tr ∧
    ∀(H2:Hp),mX K Sc H2 sc M t (j8 t i).2 tks dx ls lt tas→aA (off M H) (off M H2)→(j8 t i).1.length≤3000→tr { nx:=fun _ H'=>Q .non H',rt:=Q } [some (.ref sc),some (.str (bD (j8 t i).1))] H2:=by
   refine⟨_,aq (aX (aG qG (bW gn (by rfl) O (by decide +kernel) (aj (pv 1) au)) (bu rfl C.LN) (aL _)) (ao (bO X.made X.cls X.ok hr rfl X.m X.b rfl bF)) aP)
    (ao (aN (gC PySem.F.plainAttrs_list PySem.F.slot_list_append PySem.F.type_list_append gr (aJ (pv 0) rfl) (aj (bJ (aj (yP (aG iQ (pv 1) (Gn rfl hW) rfl) bA bA) (aj (pv 1) au))) au)))),?_⟩
   intro H2 D2 sm ar
   have hl:(bD (j8 t i).1).length=(j8 t i).1.length:=by rw[←ie,i_,ap]
   refine⟨_,rfl,_,rfl,(by rw[hl];exact iq ar (by decide)),_,_,rfl,rfl,_,rfl,?_⟩
   rw[hl]
   by_cases ax:(j8 t i).1.length≤24
   ·rw[j5 (by omega)]
    refine aR ⟨_,rfl,sc,Sc,dx,_,_,rfl,D2.at_.obj,T.cl,T.nT,rfl,.inl ⟨rfl,_,bZ.of D2.tl⟩,_,rfl,fun v hv=>?_⟩
    obtain⟨wa,xs,rfl,al,af⟩:=jG.tup hv
    have ae:=mF af
    subst ae
    refine⟨wa,_,rfl,.inr (al _),rfl,rfl,_,rfl,?_⟩
    rw[show(if false=true then !inV (V.str (bD (j8 t i).1)) (u0.map V.str)else inV (V.str (bD (j8 t i).1)) (u0.map V.str))=decide ((j8 t i).1∈Vbdeaa.WORDS)from in_words nn]
    have fin:∀(z:Str),(∀G a,G a=some (.tup [.str z,.str (bD (j8 t i).1)])→cO G (qJ (j8 t i).1) a)→∀a,H2 a=none→(∃l xs x,V.ref lt=V.ref l∧([V.ref a]:List V)=[x]∧(L2.upd H2 a (.tup [.str z,.str (bD (j8 t i).1)])) l=some (.lst xs)∧xs.length<sizeLine∧Q .non (L2.upd (L2.upd H2 a (.tup [.str z,.str (bD (j8 t i).1)])) l (.lst (xs++[x])))):=by
     intro z hz a ha
     obtain⟨D4,S⟩:=D2.keep (aA.upd (o:=.tup [.str z,.str (bD (j8 t i).1)]) ha)
     obtain⟨D5,ah⟩:=D4.app (hz _ a (lN D2.there ha))
     refine⟨lt,_,_,rfl,rfl,D4.tl,?_,?_⟩
     ·rw[ap,←Paired.length D4.tks]
      exact iO aa (by decide)
     ·exact k ax _ ⟨dx,ls,lt,tas++[a],D5⟩ (by rw[ah];exact sm.trans S)
    by_cases hw:(j8 t i).1∈Vbdeaa.WORDS
    ·rw[i9 hw]
     exact bh ⟨_,rfl,(by show 2≤sizeLine;decide),fin "word" fun G a h=>by unfold qJ;rw[j4 hw];exact h⟩
    ·rw[j5 hw]
     exact aR ⟨_,rfl,(by show 2≤sizeLine;decide),fin "name" fun G a h=>by unfold qJ;rw[js hw];exact h⟩
   ·rw[i9 (by omega)]
    exact bh ((kr (by omega)).mono (sm.trans (aU M H2))).go
  obtain⟨tr,U,tail⟩:=tail
  refine⟨_,aq (bw (i:=1) uf.nd rfl (Or.inl rfl) (bQ (pv 0) T.cl FT.me GT hr FT.b .nil passes))
   (aq (aX (PW.pt (jW (aG cz (bc (pv 0) T.cl FP.me GP Y FP.b .nil passes (aj aB au)) (bu rfl C.PT) (aL _)) (gR (eG (a_ GL Y rfl FL.m FL.F.kp FL.b .nil passes (aj (bc (pv 0) T.cl FP.me GP Y FP.b .nil passes (aj aB au)) au))))))
    (aq (cH (pv 0) aB gD) (ao (bw (i:=1) uf.nd rfl (Or.inl rfl) (dw uA (dw uA (pv 1) bA) (bQ (pv 0) T.cl FT.me GT hr FT.b .nil passes))))) aP) U),?_⟩
  have aC:=dM (p:=wordSign) (t:=t) (i:=i)
  have aT:=D.at_.few
  have aE:=D.at_.le
  refine⟨_,rfl,sc,dx,_,rfl,D.at_.obj,rfl,sc,dx,ls,lt,t,i,rfl,D.at_,fun H1 ag A1=>?_⟩
  obtain⟨J,ac⟩:=D.step ag A1
  generalize ay:i+(aQ wordSign t i).length=i1 at *
  have L:j8 t i=if(decide (pk t i1=46)&&letter (pk t (i1+1)))=true then(aQ wordSign t i++46::aQ wordSign t (i1+1),i1+1+(aQ wordSign t (i1+1)).length)else(aQ wordSign t i,i1):=by
   unfold j8
   simp only[ay]
  have aI:=dM (p:=wordSign) (t:=t) (i:=i1+1)
  have no:(decide (pk t i1=46)&&letter (pk t (i1+1)))=false→tr { nx:=fun _ H'=>Q .non H',rt:=Q } [some (.ref sc),some (.str (bD (aQ wordSign t i)))] H1:=fun e=>by
   rw[e]at L
   simp only[Bool.false_eq_true,if_false]at L
   have:=tail H1 (by rw[L];exact J) ac (by rw[L];show(aQ wordSign t i).length≤3000;omega)
   rw[L]at this
   exact this
  refine⟨_,rfl,sc,dx,_,rfl,J.at_.obj,rfl,sc,dx,ls,lt,t,i1,0,rfl,J.at_,rfl,_,rfl,?_⟩
  have e1:decide (V.int (pk t (i1+0))=V.int 46)=decide (pk t i1=46):=by rw[decide_eq_decide];exact⟨fun z=>V.int.inj z,fun z=>by rw[Nat.add_zero,z]⟩
  rw[e1]
  cases h1:decide (pk t i1=46)with
  | false=>exact aR (aR (no (by rw[h1];rfl)))
  | true =>
   refine bh ⟨_,rfl,sc,dx,_,rfl,J.at_.obj,rfl,sc,dx,ls,lt,t,i1,1,rfl,J.at_,_,rfl,_,rfl,?_⟩
   cases h2:letter (pk t (i1+1))with
   | false=>exact aR (no (by rw[h1,h2];rfl))
   | true =>
    rw[h1,h2,j4 (show(true&&true)=true from rfl)]at L
    have av:wordSign (pk t (i1+1))=true:=by unfold Vbdeaa.wordSign;rw[h2];rfl
    have aS:=(eF CZ av).2
    have Z:bC sc H1 (L2.upd H1 sc (.ins Sc dx (Gd ls (i1+1) lt))):=bC.wk fun _ _ q _=>q
    have A3:=J.at_.upd Z (j:=i1+1) ak (by omega)
    refine bh ⟨_,rfl,sc,Sc,dx,_,_,rfl,J.at_.obj,T.cl,T.nA,rfl,_,_,rfl,rfl,dx,_,J.at_.obj,(by show 3<1000;decide),?_⟩
    have lw:∀u:Text,(bD u).length=u.length:=fun u=>by rw[←ie,i_,ap]
    have hsz:(4000:Nat)≤sizeLine:=by decide
    refine⟨_,rfl,_,_,rfl,rfl,(by show(bD (aQ wordSign t i)).length+1≤sizeLine;rw[lw];omega),_,rfl,sc,dx,_,rfl,ak,rfl,sc,dx,ls,lt,t,i1+1,rfl,A3,fun H4 aw A4=>?_⟩
    obtain⟨D4,S⟩:=J.step (Z.trans aw) A4
    have ai:bD (aQ wordSign t i) ++ "."++bD (aQ wordSign t (i1+1))=bD (aQ wordSign t i++46::aQ wordSign t (i1+1)):=Ig (by
     rw[TL.iH,TL.iH,i_,i_,i_,kb,i6,im]
     rfl)
    refine⟨_,_,rfl,rfl,?_,?_⟩
    ·show(bD (aQ wordSign t i) ++ ".").length+(bD (aQ wordSign t (i1+1))).length≤sizeLine
     rw[←ie,TL.iH,gc,ie,ie,lw,lw]
     have:(("." : Str)).length=1:=rfl
     omega
    ·have:=tail H4 (by rw[L];exact D4) (ac.trans S) (by rw[L];simp only[gc,cr];omega)
     rw[L,←ai]at this
     exact this
end
end SB
end
section
namespace SB
open PySem PySem.Spec PyProof.Rows L2 XL
open Vbdeaa (Text Exp Exps Un Bin Ins digit letter wordSign blank)
variable {P:Program} {w:World} {K:PySem.W.Frag} {mg:Str→Option Value} {base:Heap}
noncomputable def yf:List Text:=[[47,47],[60,61],[60,62],[62,61]]
noncomputable def zR:List Text:=[[43],[45],[42],[47],[37],[94],[61],[60],[62],[40],[41],[44]]
noncomputable def zV:List Text:=[[40],[41],[44]]
theorem Jo:Vbdeaa.SIGNS=yf++zR:=by decide +kernel
theorem vW{α:Type}{l:List α}{p q:α→Bool}(h:∀u∈l,p u=q u):l.find? p=l.find? q:=by
 induction l with
 | nil=>rfl
 | cons a r j =>
  rw[List.find?_cons,List.find?_cons,h a b',j fun u z=>h u (am _ z)]
theorem xH{v:Text}:∀{l:List Text},l.find? (fun u=>v==u)=if v∈l then some v else none
 | []=>rfl
 | a::r=>by
  rw[List.find?_cons,xH (l:=r)]
  by_cases h:v=a
  ·subst h;simp
  ·rw[show(v==a)=false from beq_eq_false_iff_ne.mpr h]
   simp[h]
noncomputable def Vg(s:Text):Option Text:=if s.take 2∈yf then some (s.take 2)else if s.take 1∈zR then some (s.take 1)else none
theorem BP(s:Text):(Vbdeaa.SIGNS.find? fun u=>s.take u.length==u)=Vg s:=by
 rw[Jo,List.find?_append]
 have h2:∀u∈yf,u.length=2:=by decide
 have h1:∀u∈zR,u.length=1:=by decide
 rw[vW (l:=yf) (q:=fun u=>s.take 2==u) (fun u j=>by rw[h2 u j]),vW (l:=zR) (q:=fun u=>s.take 1==u) (fun u j=>by rw[h1 u j]),xH,xH]
 unfold Vg
 by_cases h:s.take 2∈yf
 ·rw[j4 h,j4 h];rfl
 ·rw[js h,js h];rfl
noncomputable def Ao(s:Text):Option Text:=if s.take 1∈zV then some (s.take 1)else if s.take 2∈dY then some (s.take 2)else if s.take 1∈dY then some (s.take 1)else none
theorem Nz(s:Text):Ao s=Vg s:=by
 have f1:∀u∈dY,u∈yf∨(u.length=1∧u∈zR):=by decide
 have f2:∀u∈zR,u∈zV∨u∈dY:=by decide
 have F:∀u∈yf,u∈dY∧u.take 1∉zV:=by decide
 have G:∀u∈zV,u∈zR:=by decide
 have tk:(s.take 2).take 1=s.take 1:=by rw[List.take_take];rfl
 have one:(s.take 2).length=1→s.take 2=s.take 1:=fun h=>by
  rw[←tk]
  exact(List.take_of_length_le (by omega)).symm
 have len1:∀u∈yf,u.length=2:=by decide
 unfold Ao Vg
 by_cases h2:s.take 2∈yf
 ·obtain⟨a,b⟩:=F _ h2
  rw[tk]at b
  rw[j4 h2,js b,j4 a]
 ·rw[js h2]
  by_cases h1:s.take 1∈zR
  ·rw[j4 h1]
   by_cases D:s.take 1∈zV
   ·rw[j4 D]
   ·rw[js D]
    by_cases j:s.take 2∈dY
    ·rw[j4 j]
     rcases f1 _ j with z | z
     ·exact absurd z h2
     ·rw[one z.1]
    ·rw[js j]
     rcases f2 _ h1 with z | z
     ·exact absurd z D
     ·rw[j4 z]
  ·rw[js h1,js (fun z=>h1 (G _ z))]
   by_cases j:s.take 2∈dY
   ·rcases f1 _ j with z | z
    ·exact absurd z h2
    ·rw[one z.1]at z
     exact absurd z.2 h1
   ·rw[js j,js fun z=>?_]
    rcases f1 _ z with y | y
    ·have:=len1 _ y
     rw[ij]at this
     omega
    ·exact h1 y.2
noncomputable def lR:List (Key×V):=[(Sum.inl 40,.str "("),(Sum.inl 41,.str ")"),(Sum.inl 44,.str ",")]
structure GT (K:PySem.W.Frag) (mg:Str→Option Value) (x:Str) (l:List TV) (a:Addr) (xs:List V):Prop where
 m:mg x=some (.ref a)
 sq:∀H:Hp,cR K H a xs
 pr:Paired (jG K) l xs
 cl:∃o,K.lookup a=some o∧o.cls=.type "tuple"∧o.dict=none
theorem wy{K:PySem.W.Frag}{H:Hp}:∀{l:List (List Int)}{xs:List V},Paired (jG K) (l.map tvs) xs→qx K H l xs
 | [],_,.nil=>.nil
 | r::l,_,.cons h t=>by
  obtain⟨a,ys,rfl,j,z⟩:=jG.tup h
  have:=iU z
  subst this
  exact .cons ⟨a,rfl,j H⟩ (wy t)
noncomputable def wF(K:PySem.W.Frag)(Sc Ce:Addr):Sp:=fun vs H Q E=>∃(sc:Addr)(M:List Addr)(t:Text)(i:Nat)(tks:List TK),vs=[.ref sc]∧Nb K Sc H sc M t i tks∧i<t.length∧tks.length≤2000 ∧
 (∀u,Ao (t.drop i)=some u→∀H',Nb K Sc H' sc M t (i+u.length) (tks++[.sign u])→aA (off M H) (off M H')→Q .non H')∧(Ao (t.drop i)=none→bz Ce (-6) (off M H) E)
theorem Lg(c:Int):(pN lR (Sum.inl c)).isSome=decide ([c]∈zV):=by
 by_cases h1:c=40
 ·subst h1;rfl
 ·by_cases h2:c=41
  ·subst h2;rfl
  ·by_cases j:c=44
   ·subst j;rfl
   ·rw[j5 (by simp[zV,h1,h2,j])]
    unfold pN lR
    have e:∀n:Int,c≠n→decide ((Sum.inl n:Key)=Sum.inl c)=false:=fun n h=>j5 fun z=>h (Sum.inl.inj z).symm
    simp[List.find?_cons,e 40 h1,e 41 h2,e 44 j,h1,h2,j,eq_comm]
theorem Lh{c:Int}(h:[c]∈zV):pN lR (Sum.inl c)=some (.str (bD [c]))∧rB [c]=(("mark" : Str),V.str (bD [c])):=by
 have:c=40∨c=41∨c=44:=by simpa[zV]using h
 rcases this with rfl | rfl | rfl<;>exact⟨by decide +kernel,by decide +kernel⟩
theorem Dd{u:Text}(h:u∈dY):rB u=(("two" : Str),V.int (dY.idxOf u:Nat)):=by
 have f:∀u∈dY,¬(u=[40]∨u=[41]∨u=[44]):=by decide
 unfold rB
 rw[js (f u h)]
section
theorem wK:aK ["self","length","signs"] ["self"] (aD (bM 9)):=⟨rfl,rfl,rfl,by decide +kernel,rfl,by decide +kernel,by decide +kernel⟩
theorem K4{f fP Sc Ce fI dm ta:Addr}{aa:List V}{fd dP dI:FuncData}(F:fc K "scan_sign" "Scanner.scan_sign" (bM 9) f fd)(T:jD K Sc)(X:XC P w K mg base "NoExpression" Ce fI dI (-6))
  (FP:Fm K Sc "peek" "Scanner.peek" (bM 1) fP dP ["self","ahead"]) (S:mg "len"=none) (ar:mg "tuple"=none) (hm:mg "MARKS"=some (.ref dm)) (KD:KDict K w dm lR) (G2:GT K mg "TWO_SIGNS" (dY.map tvs) ta aa):aF P w K mg base (aW P w) 4 f fd ["self"] (wF K Sc Ce):=by
 have GP:aF P w K mg base (aW P w) 1 fP dP ["self","ahead"] (jR K Sc):=jl FP.F T S
 refine dZ F wK (fun vs H Q E h=>?_) (fun cdv A outer s H vs Q E hr h=>?_)
 ·obtain⟨_,_,_,_,_,rfl,_⟩:=h
  rfl
 ·obtain⟨sc,M,t,i,tks,rfl,⟨dx,ls,lt,tas,D⟩,aw,ai,k,kr⟩:=h
  have al:bH 1 _:=hr.mono (by omega)
  have hu:=vP hr
  refine⟨_,aq (aX (Ba (Ky rfl hm KD (bc (pv 0) T.cl FP.me GP al FP.b .nil passes (aj aB au))))
    (aq (aN (gC PySem.F.plainAttrs_list PySem.F.slot_list_append PySem.F.type_list_append gr (aJ (pv 0) rfl) (aj (bJ (aj bA (aj (Kv rfl hm KD (bc (pv 0) T.cl FP.me GP al FP.b .nil passes (aj aB au)) (fun _ _=>rfl)) au))) au)))
    (aq (cH (pv 0) aB gD) (ao Du))) aP)
   (aq (uq rC rfl (Kg (bJ (aj aB (aj aB au)))) (cX (i:=1) wK.nd rfl (Or.inl rfl))
    (aq (bw (i:=2) wK.nd rfl (Or.inl rfl) (iJ vg (by rfl) ar (by decide +kernel) (aj (jZ rY (aJ (pv 0) rfl) (gU (aJ (pv 0) rfl)) (gU (dw pZ (aJ (pv 0) rfl) (pv 1)))) au)))
    (ao (aX (aG (Bj hu) (pv 2) (b_ (v:=.ref ta) rfl G2.m rfl) rfl)
     (aq (aN (gC PySem.F.plainAttrs_list PySem.F.slot_list_append PySem.F.type_list_append gr (aJ (pv 0) rfl) (aj (bJ (aj bA (aj (gC PySem.F.plainAttrs_tuple PySem.F.slot_tuple_index PySem.F.type_tuple_index (Bl hu) (b_ (v:=.ref ta) rfl G2.m rfl) (aj (pv 2) au)) au))) au)))
     (aq (cH (pv 0) (bW bG (by rfl) S (by decide +kernel) (aj (pv 2) au)) gD) (ao Du))) aP))))
   (ao (bO X.made X.cls X.ok hr rfl X.m X.b rfl bF))),?_⟩
  have a7:=D.at_.few
  have e1:(t.drop i).take 1=[pk t i]:=by
   unfold pk
   rw[ii aw,List.drop_eq_getElem_cons aw]
   rfl
  have ah:tas.length<sizeLine:=by
   rw[←Paired.length D.tks]
   exact iO ai (by decide)
  have fin:∀(u:Text)(H1:Hp)(a:Addr),Ao (t.drop i)=some u→u.length≤t.length-i→aA H H1→H1 a=none→mX K Sc (L2.upd H1 a (.tup [.str (rB u).1,(rB u).2])) sc M t i tks dx ls lt tas ∧
    (L2.upd (L2.upd H1 a (.tup [.str (rB u).1,(rB u).2])) lt (.lst (tas.map V.ref++[V.ref a]))) sc=some (.ins Sc dx (Gd ls i lt))∧Q .non (L2.upd (L2.upd (L2.upd H1 a (.tup [.str (rB u).1,(rB u).2])) lt (.lst (tas.map V.ref++[V.ref a]))) sc (.ins Sc dx (Gd ls (i+u.length) lt))):=by
   intro u H1 a a0 ax s1 Y
   obtain⟨Z,av⟩:=D.keep s1
   obtain⟨U,ay⟩:=Z.keep (aA.upd (o:=.tup [.str (rB u).1,(rB u).2]) Y)
   have aI:cO (off M (L2.upd H1 a (.tup [.str (rB u).1,(rB u).2]))) (.sign u) a:=lN Z.there Y
   obtain⟨D3,aS⟩:=U.app aI
   have sx:bC sc (L2.upd (L2.upd H1 a (.tup [.str (rB u).1,(rB u).2])) lt (.lst (tas.map V.ref++[V.ref a]))) (L2.upd (L2.upd (L2.upd H1 a (.tup [.str (rB u).1,(rB u).2])) lt (.lst (tas.map V.ref++[V.ref a]))) sc (.ins Sc dx (Gd ls (i+u.length) lt))):=bC.wk fun _ _ q _=>q
   obtain⟨D4,ae⟩:=D3.step sx (D3.at_.upd sx ak (by omega))
   refine⟨U,D3.at_.obj,k u a0 _ ⟨dx,ls,lt,tas++[a],D4⟩ ?_⟩
   rw[aS]at ae
   exact(av.trans ay).trans ae
  refine⟨_,rfl,sc,dx,_,rfl,D.at_.obj,rfl,sc,dx,ls,lt,t,i,0,rfl,D.at_,Sum.inl (pk t (i+0)),rfl,_,rfl,?_⟩
  rw[Nat.add_zero,Lg]
  by_cases J:[pk t i]∈zV
  ·obtain⟨g1,g2⟩:=Lh J
   have hs:Ao (t.drop i)=some [pk t i]:=by unfold Ao;rw[e1,j4 J]
   rw[i9 J]
   refine bh ⟨_,rfl,sc,Sc,dx,_,_,rfl,D.at_.obj,T.cl,T.nT,rfl,.inl ⟨rfl,_,bZ.of D.tl⟩,_,rfl,sc,dx,_,rfl,D.at_.obj,rfl,sc,dx,ls,lt,t,i,0,rfl,D.at_,Sum.inl (pk t i),_,rfl,g1,(by show 2≤sizeLine;decide),fun a Y=>?_⟩
   have f3:=fin [pk t i] H a hs (by show 1≤_;omega) (aA.refl H) Y
   rw[g2]at f3
   obtain⟨U,L,hq⟩:=f3
   refine⟨lt,_,_,rfl,rfl,U.tl,(by rw[ap];exact ah),?_⟩
   exact⟨_,rfl,sc,Sc,dx,_,_,rfl,L,T.cl,T.nA,rfl,_,_,rfl,rfl,dx,_,L,(by show 3<1000;decide),hq⟩
  ·rw[j5 J]
   refine aR ⟨(by show 2≤sizeLine;decide),fun p0 aE=>⟨p0,rfl,⟨_,cR.of ak⟩,?_⟩⟩
   have s0:aA H (L2.upd H p0 (.tup [.int 2,.int 1])):=aA.upd aE
   refine Ef (K:=K) (a:=p0) (xs:=[.int 2,.int 1]) (fun j σ H'=>∃v1 v2:Option V,σ=[some (.ref sc),v1,v2]∧aA (L2.upd H p0 (.tup [.int 2,.int 1])) H'∧(1≤j→(t.drop i).take 2∉dY)∧(2≤j→(t.drop i).take 1∉dY)) ⟨none,none,rfl,aA.refl _,fun z=>absurd z (by decide),fun z=>absurd z (by decide)⟩ (fun j σ H' _ ⟨_,_,_,s1,_⟩=>cR.of (s1 _ _ ak)) ?_ ?_
   ·rintro j x σ H' hj ⟨v1,v2,rfl,s1,n2,n1⟩
    obtain⟨m,ac,a8,rfl⟩:∃m:Nat,(j=0∧m=2∨j=1∧m=1)∧True∧x=.int m:=by
     match j,hj with
     | 0,hj=>cases hj;exact⟨2,.inl ⟨rfl,rfl⟩,trivial,rfl⟩
     | 1,hj=>cases hj;exact⟨1,.inr ⟨rfl,rfl⟩,trivial,rfl⟩
    obtain⟨Z,av⟩:=D.keep (s0.trans s1)
    refine⟨_,rfl,sc,Sc,dx,_,_,rfl,Z.at_.obj,T.cl,T.nS,rfl,_,rfl,sc,Sc,dx,_,_,rfl,Z.at_.obj,T.cl,T.nA,rfl,_,rfl,_,rfl,sc,Sc,dx,_,_,rfl,Z.at_.obj,T.cl,T.nA,rfl,_,rfl,_,_,rfl,rfl,_,rfl,ls,_,rfl,Z.at_.sig,fun p1 a4=>?_⟩
    rw[show((i:Nat):Int)+(m:Nat)=((i+m:Nat):Int) by omega,Eo,Dc,C_]
    have s2:aA H' (L2.upd H' p1 (.lst (vI ((t.drop i).take m)))):=aA.upd a4
    refine⟨p1,_,rfl,.inl ⟨bZ.of ak,fun q hq=>?_⟩⟩
    have s3:=s2.trans (aA.upd (o:=.tup (vI ((t.drop i).take m))) hq)
    have ag:=(s0.trans s1).trans s3
    obtain⟨U,ay⟩:=D.keep ag
    have af:cR K (L2.upd (L2.upd H' p1 (.lst (vI ((t.drop i).take m)))) q (.tup (vI ((t.drop i).take m)))) q (((t.drop i).take m).map V.int):=cR.of ak
    generalize aC:L2.upd (L2.upd H' p1 (.lst (vI ((t.drop i).take m)))) q (.tup (vI ((t.drop i).take m)))=H3 at *
    refine⟨_,rfl,q,ta,(t.drop i).take m,dY,aa,rfl,rfl,af,G2.sq _,wy G2.pr,_,rfl,?_⟩
    by_cases G:(t.drop i).take m∈dY
    ·have hs:Ao (t.drop i)=some ((t.drop i).take m):=by
      unfold Ao
      rw[e1,js J]
      rcases ac with⟨_,rfl⟩ | ⟨rfl,rfl⟩
      ·rw[j4 G]
      ·rw[js (n2 (by decide)),←e1,j4 G]
     rw[i9 G]
     refine bh ⟨_,rfl,sc,Sc,dx,_,_,rfl,U.at_.obj,T.cl,T.nT,rfl,.inl ⟨rfl,_,bZ.of U.tl⟩,.inr (.inl ⟨rfl,G2.cl⟩),_,rfl,ta,q,(t.drop i).take m,dY,aa,rfl,rfl,af,G2.sq _,wy G2.pr,G,(by show 2≤sizeLine;decide),fun a Y=>?_⟩
     have ax:((t.drop i).take m).length≤t.length-i:=by rw[ij,kg];omega
     have f3:=fin _ H3 a hs ax ag Y
     rw[Dd G]at f3
     obtain⟨D4,L,a5⟩:=f3
     refine⟨lt,_,_,rfl,rfl,D4.tl,(by rw[ap];exact ah),?_⟩
     have a6:cR K (L2.upd (L2.upd H3 a (.tup [.str "two",.int (dY.idxOf ((t.drop i).take m):Nat)])) lt (.lst (tas.map V.ref++[V.ref a]))) q (((t.drop i).take m).map V.int):=by
      have O:H3 q=some (.tup (vI ((t.drop i).take m))):=by rw[←aC];exact ak
      have aT:q≠a:=fun z=>by rw[z,Y]at O;cases O
      have a3:q≠lt:=fun z=>by have:=U.tl;rw[←z,O]at this;cases this
      exact cR.of (by rw[az a3,az aT];exact O)
     refine⟨_,rfl,sc,Sc,dx,_,_,rfl,L,T.cl,T.nA,rfl,_,rfl,q,_,rfl,.inr a6,_,_,rfl,rfl,dx,_,L,(by show 3<1000;decide),?_⟩
     rw[ap]
     exact a5
    ·rw[j5 G]
     refine aR ⟨_,_,rfl,s1.trans s3,fun _=>?_,fun z=>?_⟩
     ·rcases ac with⟨_,rfl⟩ | ⟨rfl,rfl⟩
      ·exact G
      ·exact n2 (by decide)
     ·rcases ac with⟨rfl,rfl⟩ | ⟨rfl,rfl⟩
      ·omega
      ·exact G
   ·rintro σ H' ⟨v1,v2,rfl,s1,n2,n1⟩
    have hs:Ao (t.drop i)=none:=by
     unfold Ao
     rw[js (by rw[e1];exact J),js (n2 (by decide)),js (n1 (by decide))]
    have bad:=(kr hs).mono ((aU M H).trans (s0.trans s1))
    exact fun e d H2 s' x1 x2=>bad e d H2 s' x1 x2
end
theorem vo{c:Int}(h:letter c=true):wordSign c=true:=by unfold Vbdeaa.wordSign;rw[h];rfl
noncomputable def mL(t:Text)(i:Nat):Option (List TK×Nat) :=
 if blank (pk t i)=true then some ([],i+1)
 else if digit (pk t i)=true then(if(decide ((bN t i).2.1=0)||eQ (pk t (bN t i).2.2))=false∧Vbdeaa.small (Vbdeaa.frac ((bN t i).1:Nat) (bN t i).2.1)=true then some ([.num (Vbdeaa.frac ((bN t i).1:Nat) (bN t i).2.1)],(bN t i).2.2)else none)
 else if letter (pk t i)=true then(if(j8 t i).1.length≤24 then some ([qJ (j8 t i).1],(j8 t i).2)else none)
 else match Ao (t.drop i)with
  | some u=>some ([.sign u],i+u.length)
  | none=>none
theorem lO{t:Text}{i:Nat}:qI t i↔((decide ((bN t i).2.1=0)||eQ (pk t (bN t i).2.2))=false∧Vbdeaa.small (Vbdeaa.frac ((bN t i).1:Nat) (bN t i).2.1)=true):=by
 unfold qI
 rw[Bool.or_eq_false_iff,decide_eq_false_iff_not,not_or,Bool.not_eq_true]
theorem yq{t:Text}{i:Nat}(h:i<t.length):(blank (pk t i)=true→mL t i=some ([],i+1))∧(blank (pk t i)=false→match mL t i with
  | none=>(Vbdeaa.token (t.drop i)).1=.bad
  | some (l,j)=>∃x,l=[x]∧x≠.bad∧x≠.eof∧Vbdeaa.token (t.drop i)=(x,t.drop j)∧i<j∧j≤t.length):=by
 have hc:t.drop i=pk t i::t.drop (i+1):=by
  unfold pk
  rw[ii h,List.drop_eq_getElem_cons h]
  rfl
 refine⟨fun U=>by unfold mL;rw[j4 U],fun U=>?_⟩
 have et:Vbdeaa.token (t.drop i)=if digit (pk t i)=true then Vbdeaa.numberToken (t.drop i)
  else if letter (pk t i)=true then
   (if Vbdeaa.LONGNAME<(Vbdeaa.nameOf (t.drop i)).length then .bad else if Vbdeaa.nameOf (t.drop i)∈Vbdeaa.WORDS then .word (Vbdeaa.nameOf (t.drop i))else .name (Vbdeaa.nameOf (t.drop i)),(t.drop i).drop (Vbdeaa.nameOf (t.drop i)).length)
  else match Vbdeaa.SIGNS.find? fun s=>(t.drop i).take s.length==s with
   | some s=>(.sign s,(t.drop i).drop s.length)
   | none=>(.bad,[]):=by
  rw[hc]
  rfl
 rw[et]
 unfold mL
 rw[js (by rw[U];exact ip)]
 cases hd:digit (pk t i)with
 | true =>
  rw[j4 rfl,j4 rfl,O9]
  have J:i<(bN t i).2.2∧(bN t i).2.2≤t.length:=by
   have h1:=(eF iT hd).1
   have S:=dM (p:=digit) (t:=t) (i:=i)
   have aa:1≤(aQ digit t i).length:=by rw[h1,cr];omega
   have Z:=dM (p:=digit) (t:=t) (i:=i+(aQ digit t i).length+1)
   unfold bN
   simp only
   split
   ·rename_i q
    rw[ia]at q
    have:=(eF iT q.2).2
    simp only
    omega
   ·split
    ·rename_i q
     rw[ia]at q
     have:=(eF iT q.2).2
     simp only
     omega
    ·simp only
     omega
  by_cases hok:qI t i
  ·rw[j4 (lO.mp hok),js hok.1,j4 hok.2]
   exact⟨_,rfl,by simp,by simp,rfl,J.1,J.2⟩
  ·rw[js (fun z=>hok (lO.mpr z))]
   simp only
   by_cases F:(bN t i).2.1=0∨eQ (pk t (bN t i).2.2)=true
   ·rw[j4 F]
   ·rw[js F,js fun z=>hok ⟨F,z⟩]
 | false =>
  rw[js ip,js ip]
  cases S:letter (pk t i)with
  | true =>
   rw[j4 rfl,j4 rfl]
   obtain⟨n1,n2⟩:=Uv t i
   rw[n1,List.drop_drop,←n2]
   have G:Vbdeaa.LONGNAME=24:=rfl
   rw[G]
   have Y:wordSign (pk t i)=true:=vo S
   have h1:=(eF CZ Y).1
   have J:i<(j8 t i).2∧(j8 t i).2≤t.length:=by
    have S:=dM (p:=wordSign) (t:=t) (i:=i)
    have aa:1≤(aQ wordSign t i).length:=by rw[h1,cr];omega
    have Z:=dM (p:=wordSign) (t:=t) (i:=i+(aQ wordSign t i).length+1)
    unfold j8
    simp only
    split
    ·rename_i q
     rw[ia]at q
     have L:wordSign (pk t (i+(aQ wordSign t i).length+1))=true:=vo q.2
     have:=(eF CZ L).2
     simp only
     omega
    ·simp only
     omega
   by_cases O:(j8 t i).1.length≤24
   ·rw[j4 O,js (by omega)]
    refine⟨_,rfl,?_,?_,?_,J.1,J.2⟩
    ·unfold qJ;split<;>simp
    ·unfold qJ;split<;>simp
    ·rfl
   ·rw[js O,j4 (by omega)]
  | false =>
   rw[js ip,js ip,BP,←Nz]
   cases D:Ao (t.drop i)with
   | none=>rfl
   | some u =>
    simp only
    refine⟨_,rfl,by simp,by simp,by rw[List.drop_drop],?_⟩
    have hu:u=(t.drop i).take 1∨(u=(t.drop i).take 2):=by
     unfold Ao at D
     split at D
     ·cases D;exact .inl rfl
     ·split at D
      ·cases D;exact .inr rfl
      ·split at D
       ·cases D;exact .inl rfl
       ·cases D
    have:1≤u.length∧u.length≤t.length-i:=by
     rcases hu with rfl | rfl<;>rw[ij,kg]<;>omega
    omega
noncomputable def wD(K:PySem.W.Frag)(Sc Ce:Addr):Sp:=fun vs H Q E=>∃(sc:Addr)(M:List Addr)(t:Text)(i:Nat)(tks:List TK),vs=[.ref sc]∧Nb K Sc H sc M t i tks∧i<t.length∧tks.length≤2000 ∧
 (∀l j,mL t i=some (l,j)→∀H',Nb K Sc H' sc M t j (tks++l)→aA (off M H) (off M H')→Q .non H')∧(mL t i=none→bz Ce (-6) (off M H) E)
section
theorem Dl:aK ["self","sign"] ["self"] (aD (bM 2)):=⟨rfl,rfl,rfl,by decide +kernel,rfl,by decide +kernel,by decide +kernel⟩
theorem KZ{f fP fD fL f1 f2 f3 Sc Ce:Addr}{fd dP dD dL d1 d2 d3:FuncData}(F:fc K "scan_token" "Scanner.scan_token" (bM 2) f fd)(T:jD K Sc)(C:CT K mg)
  (FP:Fm K Sc "peek" "Scanner.peek" (bM 1) fP dP ["self","ahead"]) (U:mg "len"=none) (FD:Fn K mg "is_digit" jh fD dD ["sign"]) (Z:Fn K mg "is_letter" gQ fL dL ["sign"])
  (F1:Fm K Sc "scan_number" "Scanner.scan_number" (bM 6) f1 d1 ["self"]) (G1:aF P w K mg base (aW P w) 4 f1 d1 ["self"] (wG K Sc Ce))
  (F2:Fm K Sc "scan_name" "Scanner.scan_name" (bM 8) f2 d2 ["self"]) (G2:aF P w K mg base (aW P w) 4 f2 d2 ["self"] (tY K Sc Ce))
  (F3:Fm K Sc "scan_sign" "Scanner.scan_sign" (bM 9) f3 d3 ["self"]) (G3:aF P w K mg base (aW P w) 4 f3 d3 ["self"] (wF K Sc Ce)):aF P w K mg base (aW P w) 5 f fd ["self"] (wD K Sc Ce):=by
 have GP:aF P w K mg base (aW P w) 1 fP dP ["self","ahead"] (jR K Sc):=jl FP.F T U
 have GD:aF P w K mg base (aW P w) 1 fD dD ["sign"] lG:=j0 FD
 have GL:aF P w K mg base (aW P w) 1 fL dL ["sign"] jT:=lL Z
 refine dZ F Dl (fun vs H Q E h=>?_) (fun cdv A outer s H vs Q E hr h=>?_)
 ·obtain⟨_,_,_,_,_,rfl,_⟩:=h
  rfl
 ·obtain⟨sc,M,t,i,tks,rfl,G,L,j,k,kr⟩:=h
  obtain⟨dx,ls,lt,tas,D⟩:=id G
  have J:bH 1 _:=hr.mono (by omega)
  refine⟨_,aq (bw (i:=1) Dl.nd rfl (Or.inl rfl) (bc (pv 0) T.cl FP.me GP J FP.b .nil passes (aj aB au)))
   (ao (aX (aG iQ (pv 1) (Gn rfl C.BL) rfl) (ao (cH (pv 0) aB gD))
    (ao (aX (eG (a_ GD J rfl FD.m FD.F.kp FD.b .nil passes (aj (pv 1) au))) (ao (aN (bQ (pv 0) T.cl F1.me G1 hr F1.b .nil passes)))
     (ao (aX (eG (a_ GL J rfl Z.m Z.F.kp Z.b .nil passes (aj (pv 1) au))) (ao (aN (bQ (pv 0) T.cl F2.me G2 hr F2.b .nil passes)))
      (ao (aN (bQ (pv 0) T.cl F3.me G3 hr F3.b .nil passes))))))))),?_⟩
  refine⟨_,rfl,sc,dx,_,rfl,D.at_.obj,rfl,sc,dx,ls,lt,t,i,0,rfl,D.at_,?_⟩
  rw[Nat.add_zero]
  refine⟨_,rfl,fun v hv=>?_⟩
  obtain⟨wa,xs,rfl,af,ac⟩:=jG.tup hv
  have aa:=iU ac
  subst aa
  refine⟨wa,_,rfl,.inr (af _),rfl,rfl,_,rfl,?_⟩
  have eb:inV (.int (pk t i)) ([32,9,10,13].map V.int)=blank (pk t i):=by
   show(((32:Int)==_)||(((9:Int)==_)||(((10:Int)==_)||(((13:Int)==_)||false))))=_
   unfold Vbdeaa.blank
   rw[Bool.or_false,show((32:Int)==pk t i)=(pk t i==32)from BEq.comm,show((9:Int)==pk t i)=(pk t i==9)from BEq.comm,show((10:Int)==pk t i)=(pk t i==10)from BEq.comm,show((13:Int)==pk t i)=(pk t i==13)from BEq.comm]
  rw[show(if false=true then !inV (.int (pk t i)) ([32,9,10,13].map V.int)else inV (.int (pk t i)) ([32,9,10,13].map V.int))=blank (pk t i)from eb]
  cases hb:blank (pk t i)with
  | true =>
   have e:=(yq L).1 hb
   refine bh ⟨_,rfl,sc,Sc,dx,_,_,rfl,D.at_.obj,T.cl,T.nA,rfl,_,_,rfl,rfl,dx,_,D.at_.obj,(by show 3<1000;decide),?_⟩
   have sx:bC sc H (L2.upd H sc (.ins Sc dx (Gd ls (i+1) lt))):=bC.wk fun _ _ q _=>q
   obtain⟨D4,ae⟩:=D.step sx (D.at_.upd sx ak L)
   exact k [] (i+1) e _ ⟨dx,ls,lt,tas,by rw[i8];exact D4⟩ ae
  | false =>
   have O:¬blank (pk t i)=true:=by rw[hb];exact ip
   refine aR ⟨_,rfl,_,rfl,_,rfl,?_⟩
   cases hd:digit (pk t i)with
   | true =>
    refine bh ⟨_,rfl,sc,dx,_,rfl,D.at_.obj,rfl,sc,M,t,i,tks,rfl,G,j,fun hok H' S Y=>?_,fun hok=>kr ?_⟩
    ·exact k _ _ (by unfold mL;rw[js O,j4 hd,j4 (lO.mp hok)]) H' S Y
    ·unfold mL;rw[js O,j4 hd,js fun z=>hok (lO.mpr z)]
   | false =>
    have nd:¬digit (pk t i)=true:=by rw[hd];exact ip
    refine aR ⟨_,rfl,_,rfl,_,rfl,?_⟩
    cases hl:letter (pk t i)with
    | true =>
     refine bh ⟨_,rfl,sc,dx,_,rfl,D.at_.obj,rfl,sc,M,t,i,tks,rfl,G,j,fun hok H' S Y=>?_,fun hok=>kr ?_⟩
     ·exact k _ _ (by unfold mL;rw[js O,js nd,j4 hl,j4 hok]) H' S Y
     ·unfold mL;rw[js O,js nd,j4 hl,js (by omega)]
    | false =>
     have nl:¬letter (pk t i)=true:=by rw[hl];exact ip
     refine aR ⟨_,rfl,sc,dx,_,rfl,D.at_.obj,rfl,sc,M,t,i,tks,rfl,G,L,j,fun u hu H' S Y=>?_,fun hu=>kr ?_⟩
     ·exact k _ _ (by unfold mL;rw[js O,js nd,js nl,hu]) H' S Y
     ·unfold mL;rw[js O,js nd,js nl,hu]
end
noncomputable def eV:TK→Prop
 | .name n=>Hw n
 | .word n=>n∈Vbdeaa.WORDS
 | .sign s=>s∈zV∨s∈dY
 | .bad=>False
 | _=>True
theorem Q5{t:Text}{i j:Nat}{l:List TK}(h:mL t i=some (l,j)):∀x∈l,eV x∧x≠.eof:=by
 unfold mL at h
 split at h
 ·cases h
  intro x hx
  cases hx
 ·split at h
  ·split at h
   ·cases h
    intro x hx
    rw[List.mem_singleton.mp hx]
    exact⟨trivial,by simp⟩
   ·cases h
  ·split at h
   ·split at h
    ·rename_i D
     cases h
     intro x hx
     rw[List.mem_singleton.mp hx]
     unfold qJ
     split
     ·exact⟨‹_›,by simp⟩
     ·exact⟨⟨D,fun c F=>HD (yW c F)⟩,by simp⟩
    ·cases h
   ·split at h
    ·rename_i u z
     cases h
     intro x hx
     rw[List.mem_singleton.mp hx]
     refine⟨?_,by simp⟩
     unfold Ao at z
     split at z
     ·cases z;exact .inl ‹_›
     ·split at z
      ·cases z;exact .inr ‹_›
      ·split at z
       ·cases z;exact .inr ‹_›
       ·cases z
    ·cases h
noncomputable def gK(t:Text):List TK:=(Vbdeaa.tokensOf t).map Prod.fst
theorem Ft{t:Text}{i k p:Nat}(h:i<t.length)(O:t.length-i<k):match mL t i with
  | none=>(Vbdeaa.tokens k p (t.drop i)).map Prod.fst=[.bad]
  | some (l,j)=>i<j∧j≤t.length∧l.length≤1∧∃k' L,t.length-j<k'∧(Vbdeaa.tokens k p (t.drop i)).map Prod.fst=l++(Vbdeaa.tokens k' L (t.drop j)).map Prod.fst:=by
 have F:t.drop i=pk t i::t.drop (i+1):=by
  unfold pk
  rw[ii h,List.drop_eq_getElem_cons h]
  rfl
 obtain⟨t1,t2⟩:=yq h
 cases k with
 | zero=>omega
 | succ k =>
  have G:Vbdeaa.tokens (k+1) p (t.drop i)=if blank (pk t i)=true then Vbdeaa.tokens k (p+1) (t.drop (i+1))else match Vbdeaa.token (t.drop i)with
   | (.bad,_)=>[(.bad,p)]
   | (x,s)=>(x,p)::Vbdeaa.tokens k (p+((t.drop i).length-s.length)) s:=by
   rw[F]
   rfl
  rw[G]
  cases D:blank (pk t i)with
  | true =>
   rw[t1 D,j4 rfl]
   exact⟨by omega,by omega,by decide,k,p+1,by omega,rfl⟩
  | false =>
   have:=t2 D
   rw[js ip]
   revert this
   cases mL t i with
   | none =>
    intro e
    simp only at e ⊢
    revert e
    cases Vbdeaa.token (t.drop i)with
    | mk a b =>
     intro e
     have e:a=.bad:=e
     subst e
     rfl
   | some z =>
    obtain⟨l,j⟩:=z
    rintro⟨x,rfl,J,ne,e,h1,h2⟩
    rw[e]
    refine⟨h1,h2,f' _,k,p+((t.drop i).length-(t.drop j).length),by omega,?_⟩
    cases x with
    | bad=>exact absurd rfl J
    | _=>rfl
noncomputable def Ab(K:PySem.W.Frag)(Ce:Addr):Sp:=fun vs H Q E=>∃(l:Addr)(t:Text),vs=[.ref l]∧bZ K H l (vI t)∧t.length≤2000 ∧
 (∀tks,gK t=tks++[.eof]→tks.length≤2000→(∀x∈tks,eV x∧x≠.eof)→∀L tas H',H L=none→aA H H'→H' L=some (.lst (tas.map V.ref))→Paired (cO H') (tks++[.eof]) tas→Q (.ref L) H')∧(∀tks,gK t=tks++[.bad]→(∀x∈tks,x≠.eof)→bz Ce (-6) H E)
noncomputable abbrev yG:Stmt:=top 66
section
theorem Jt:aK ["text","scanner"] ["text"] (aD yG):=⟨rfl,rfl,rfl,by decide +kernel,rfl,by decide +kernel,by decide +kernel⟩
theorem Oi{f fI fT Sc Ce:Addr}{fd dI dT:FuncData}(F:Fn K mg "tokens_of" yG f fd ["text"])(T:jD K Sc)(ax:Mk K Sc fI)(GI:aF P w K mg base (aW P w) 1 fI dI ["self","signs"] (I_ Sc))(BI:Binds K dI ["self","signs"] [])(ar:mg "Scanner"=some (.ref Sc))
  (aa:mg "len"=none) (FT:Fm K Sc "scan_token" "Scanner.scan_token" (bM 2) fT dT ["self"]) (aS:aF P w K mg base (aW P w) 5 fT dT ["self"] (wD K Sc Ce)):aF P w K mg base (aW P w) 6 f fd ["text"] (Ab K Ce):=by
 refine dZ F.F Jt (fun vs H Q E h=>?_) (fun cdv A outer s H vs Q E hr h=>?_)
 ·obtain⟨_,_,rfl,_⟩:=h
  rfl
 ·obtain⟨l,t,rfl,hl,aI,k,kr⟩:=h
  have al:bH 2 _:=hr.mono (by omega)
  refine⟨_,aq (bw (i:=1) Jt.nd rfl (Or.inl rfl) (sS ax GI al rfl ar BI .nil passes (aj (pv 0) au)))
   (aq (gB rC (aG DQ (aJ (pv 1) rfl) (bW bG (by rfl) aa (by decide +kernel) (aj (pv 0) au)) (aL _)) (ao (aN (bQ (pv 1) T.cl FT.me aS hr FT.b .nil passes))))
   (ao (aV (dw xj (aJ (pv 1) rfl) (bT (aj (bJ (aj bA (aj bA au))) au)))))),?_⟩
  refine⟨_,rfl,?_⟩
  intro x dx hx aw a5
  refine⟨x,dx,l,rfl,ak,fun lt G U H1 sx ae ah=>⟨rfl,?_⟩⟩
  have aE:lt≠dx:=fun z=>by rw[az U,z,ak]at G;cases G
  rw[az U,az aE]at G
  have out:aA H (off [x,lt] H1):=fun b o q=>by
   have bx:=aH q hx
   refine gm (sx b o (by rw[az bx,az (aH q aw)];exact q) bx) ?_
   simp only[hU,iN,or_false,not_or]
   exact⟨bx,aH q G⟩
  have D0:mX K Sc H1 x [x,lt] t 0 [] dx l lt []:=⟨rfl,Ne.symm U,⟨ah,fj (out.trans (aU _ _)) hl,aI,Nat.zero_le _⟩,fj out hl,ae,.nil⟩
  refine⟨fun m σ H'=>∃(i:Nat)(tks:List TK)(k' p':Nat),σ=[some (.ref l),some (.ref x)]∧m=t.length-i∧i≤t.length∧tks.length≤i∧(∀x∈tks,eV x∧x≠.eof)∧Nb K Sc H' x [x,lt] t i tks∧aA (off [x,lt] H1) (off [x,lt] H')∧t.length-i<k'∧gK t=tks++(Vbdeaa.tokens k' p' (t.drop i)).map Prod.fst,
   ⟨_,0,[],t.length+1,0,rfl,rfl,Nat.zero_le _,Nat.zero_le _,fun _ z=>(by cases z),⟨dx,l,lt,[],D0⟩,aA.refl _,by omega,rfl⟩,?_⟩
  rintro m σ H' ⟨i,tks,k',p',rfl,rfl,hi,a4,O,ac,so,hk,hT⟩
  obtain⟨Y,a3,lt',tas,D⟩:=id ac
  have a0:bZ K H' l (vI t):=fj ((out.trans so).trans (aU _ _)) hl
  refine⟨_,rfl,x,Sc,Y,_,_,rfl,D.at_.obj,T.cl,T.nA,rfl,_,rfl,l,_,rfl,.inl a0,_,_,rfl,rfl,_,rfl,?_⟩
  rw[cT]
  by_cases J:i<t.length
  ·rw[i9 (by omega)]
   refine bh ⟨fun σ' S=>∃(j:Nat)(tks:List TK)(k' p':Nat),σ'=[some (.ref l),some (.ref x)]∧t.length-j<t.length-i∧j≤t.length∧tks.length≤j∧(∀x∈tks,eV x∧x≠.eof)∧Nb K Sc S x [x,lt] t j tks∧aA (off [x,lt] H1) (off [x,lt] S)∧t.length-j<k'∧gK t=tks++(Vbdeaa.tokens k' p' (t.drop j)).map Prod.fst,fun σ' S ⟨j,tk,k2,p2,h1,h2,h3⟩=>⟨_,h2,j,tk,k2,p2,h1,rfl,h3⟩,?_⟩
   have st:=Ft (p:=p') J hk
   refine⟨_,rfl,x,Y,_,rfl,D.at_.obj,rfl,x,[x,lt],t,i,tks,rfl,ac,J,by omega,fun tl j hj H2 av aT=>?_,fun ag=>?_⟩
   ·rw[hj]at st
    obtain⟨h1,h2,h3,k2,p2,h4,h5⟩:=st
    refine⟨j,tks++tl,k2,p2,rfl,by omega,h2,by rw[gc];omega,fun y Z=>(by
     rcases List.mem_append.mp Z with Z | Z
     ·exact O y Z
     ·exact Q5 hj y Z),av,so.trans aT,h4,?_⟩
    rw[hT,h5,im]
   ·rw[ag]at st
    refine(kr tks (by rw[hT,st]) fun y Z=>(O y Z).2).mono (out.trans so)
  ·rw[j5 (by omega)]
   have aC:i=t.length:=by omega
   subst aC
   have ay:gK t=tks++[.eof]:=by
    rw[hT,List.drop_length]
    cases k'<;>rfl
   have af:lt'=lt:=by have:=D.mem;simpa using this.symm
   subst af
   refine aR ⟨_,rfl,x,Sc,Y,_,_,rfl,D.at_.obj,T.cl,T.nT,rfl,(by show 2≤sizeLine;decide),fun e he=>⟨(by show 1≤sizeLine;decide),fun q hq=>?_⟩⟩
   have s1:aA H' (L2.upd H' e (.tup [.str "end",.str ""])):=aA.upd he
   have s2:=s1.trans (aA.upd (o:=.lst [V.ref e]) hq)
   have ai:(L2.upd (L2.upd H' e (.tup [.str "end",.str ""])) q (.lst [V.ref e])) e=some (.tup [.str "end",.str ""]):=(aA.upd (o:=.lst [V.ref e]) hq) _ _ ak
   refine⟨lt',q,_,_,rfl,rfl,s2 _ _ D.tl,ak,?_,fun L hL=>?_⟩
   ·rw[ap,←Paired.length D.tks]
    exact iq (show tks.length+1≤3000 by omega) (by decide)
   ·have s3:=s2.trans (aA.upd (o:=.lst (tas.map V.ref++[V.ref e])) hL)
    have sH:aA H H':=(out.trans so).trans (aU _ _)
    refine k tks ay (by omega) O L (tas++[e]) _ (same_none (sH.trans s2) hL) (sH.trans s3) (by rw[ak,kb];rfl) ?_
    exact cu (iG D.tks ((aU _ _).trans s3)) ((aA.upd (o:=.lst (tas.map V.ref++[V.ref e])) hL) _ _ ai)
end
end SB
end
section
set_option maxRecDepth 10000
namespace PM
open Vbdeaa (Exp Exps Un Bin Tok Toks Text text sg wd peek place then_ give isTok must opens joiner oneOf exp joins atom args wrong)
open MX (my o7 mz o6 mj mq gw jO M9)
inductive Jn where
 | bin (o:Bin) | and | or
 deriving DecidableEq
noncomputable def Ew:Bin→Nat
 | .add=>5 | .sub=>5 | .mul=>6 | .div=>6 | .quo=>6 | .rem=>6 | .pow=>8 | .eq=>4 | .ne=>4 | .lt=>4 | .le=>4 | .gt=>4 | .ge=>4
noncomputable def nM:Un→Nat
 | .neg=>7 | .not=>3 | .floor=>9 | .ceil=>9 | .abs=>9 | .sign=>9 | .num=>9 | .den=>9
noncomputable def Jn.kind:Jn→Nat
 | .bin o=>Ew o
 | .and=>2
 | .or=>1
noncomputable def ik(k:Nat):Nat:=if k=4 then 5 else if k=8 then 9 else k
noncomputable def e_(k:Nat):Nat:=if k=8 then 7 else k+1
noncomputable def Jn.make:Jn→Exp→Exp→Exp
 | .bin o,a,b=>.bin o a b
 | .and,a,b=>.and a b
 | .or,a,b=>.or a b
inductive Hd where
 | best (g:Bool) | call (n:Text)
noncomputable def app:List Exp→Exps→Exps
 | [],l=>l
 | e::r,l=>.cons e (app r l)
noncomputable def Hd.make:Hd→Exps→Exp
 | .best g,l=>.best g l
 | .call n,l=>.use n l
inductive Fr where
 | grp | un (o:Un) | lst (h:Hd) (l:List Exp) | if0 | if1 (c:Exp) | if2 (c a:Exp) | jn (j:Jn) (a:Exp)
noncomputable def Fr.place:Fr→Nat
 | .grp=>0
 | .un .neg=>7
 | .un .not=>3
 | .un _=>0
 | .lst _ _=>0
 | .if0=>0
 | .if1 _=>0
 | .if2 _ _=>0
 | .jn j _=>e_ j.kind
noncomputable def Fr.around:Fr→Nat
 | .jn j _=>if j.kind=8 then 1 else 0
 | _=>1
noncomputable def Fr.close:Fr→Exp→Exp×Nat
 | .grp,e=>(e,9)
 | .un o,e=>(.un o e,nM o)
 | .lst h l,e=>(h.make (app l (.cons e .nil)),9)
 | .if0,e=>(e,0)
 | .if1 _,e=>(e,0)
 | .if2 c a,e=>(.cond c a e,0)
 | .jn j a,e=>(j.make a e,j.kind)
noncomputable def Fr.ends:Fr→Bool
 | .un .neg=>true
 | .un .not=>true
 | .if2 _ _=>true
 | .jn _ _=>true
 | _=>false
noncomputable def Fr.brk:Fr→Bool
 | .grp=>true
 | .un .neg=>false
 | .un .not=>false
 | .un _=>true
 | .lst _ _=>true
 | _=>false
noncomputable def nest:List Fr→Nat
 | []=>0
 | f::r=>f.around+nest r
noncomputable def top:List Fr→Nat
 | []=>0
 | f::_=>f.place
inductive Md where
 | beg | nm (n:Text) | br (f:Fr) | en (e:Exp) (k:Nat)
noncomputable def push(fs:List Fr)(f:Fr):Option (List Fr×Md):=if 32<nest fs+f.around then none else some (f::fs,.beg)
noncomputable def fH(k:Nat):List Fr→Exp→Nat→List Fr×Exp×Nat
 | [],e,c=>([],e,c)
 | f::r,e,c=>if k<f.place then fH k r (f.close e).1 (f.close e).2 else(f::r,e,c)
noncomputable def cD:List Fr→Exp→Nat→List Fr×Exp×Nat
 | [],e,c=>([],e,c)
 | f::r,e,c=>if f.ends=true then cD r (f.close e).1 (f.close e).2 else(f::r,e,c)
noncomputable def bU(x:Tok):Option Jn :=
 if x=wd "and" then some .and else if x=wd "or" then some .or else if x=sg "^" then some (.bin .pow)else match joiner 4 x with
  | some o=>some (.bin o)
  | none=>match joiner 5 x with
   | some o=>some (.bin o)
   | none=>(joiner 6 x).map .bin
noncomputable def around(x:Tok)(fs:List Fr)(e:Exp):Option (List Fr×Md) :=
 if x=wd "then" then(match fs with
  | .if0::r=>some (.if1 e::r,.beg)
  | _=>none)
 else if x=wd "else" then(match fs with
  | .if1 c::r=>some (.if2 c e::r,.beg)
  | _=>none)
 else if x=sg "," then(match fs with
  | .lst h l::r=>some (.lst h (l++[e])::r,.beg)
  | _=>none)
 else if x=sg ")" then(match fs with
  | f::r=>if f.brk=true then some (r,.en (f.close e).1 (f.close e).2)else none
  | []=>none)
 else none
noncomputable def goOn(x:Tok)(fs:List Fr)(e:Exp)(k:Nat):Option (List Fr×Md):=match bU x with
 | some j=>if(fH j.kind fs e k).2.2<ik j.kind then none else push (fH j.kind fs e k).1 (.jn j (fH j.kind fs e k).2.1)
 | none=>around x (cD fs e k).1 (cD fs e k).2.1
noncomputable def du(w:Text)(fs:List Fr):Option (List Fr×Md) :=
 if w=text "if"∧top fs=0 then push fs .if0
 else if w=text "not"∧top fs≤3 then push fs (.un .not)
 else match oneOf (.word w)with
  | some o=>some (fs,.br (.un o))
  | none=>if w=text "min" then some (fs,.br (.lst (.best false) []))else if w=text "max" then some (fs,.br (.lst (.best true) []))else none
noncomputable def step(x:Tok)(fs:List Fr):Md→Option (List Fr×Md)
 | .beg=>(match x with
  | .num q=>some (fs,.en (.num q) 9)
  | .name n=>some (fs,.nm n)
  | .word w=>du w fs
  | x=>if x=sg "(" then push fs .grp else if x=sg "-" then push fs (.un .neg)else none)
 | .nm n=>if x=sg "(" then push fs (.lst (.call n) [])else goOn x fs (.name n) 9
 | .br f=>if x=sg "(" then push fs f else none
 | .en e k=>goOn x fs e k
noncomputable def fin(fs:List Fr):Md→Option Exp
 | .en e k=>(match(cD fs e k).1 with
  | []=>some (cD fs e k).2.1
  | _=>none)
 | .nm n=>(match(cD fs (.name n) 9).1 with
  | []=>some (cD fs (.name n) 9).2.1
  | _=>none)
 | _=>none
noncomputable def run:List Tok→List Fr→Md→Option Exp
 | [],_,_=>none
 | x::t,fs,m=>if x=.eof then fin fs m else match step x fs m with
  | none=>none
  | some s=>run t s.1 s.2
noncomputable def R(t:Toks)(fs:List Fr)(m:Md):Option Exp:=run (t.map Prod.fst) fs m
noncomputable def Q(t:Toks):Prop:=∃x p,t.getLast?=some (x,p)∧(x=.eof∨x=.bad)
theorem Q.tail{x:Tok}{p:Nat}{t:Toks}(h:Q ((x,p)::t))(h1:x≠.eof)(h2:x≠.bad):Q t:=by
 cases t with
 | nil =>
  obtain⟨y,q,e,h⟩:=h
  cases e
  cases h with
  | inl h=>exact absurd h h1
  | inr h=>exact absurd h h2
 | cons y t =>
  obtain⟨z,q,e,h⟩:=h
  exact⟨z,q,by rw[List.getLast?_cons_cons]at e;exact e,h⟩
theorem Q.cons{t:Toks}(h:Q t):∃x p r,t=(x,p)::r:=by
 cases t with
 | nil=>obtain⟨_,_,e,_⟩:=h;cases e
 | cons y t=>exact⟨y.1,y.2,t,rfl⟩
theorem oh{x:Tok}{p:Nat}{t:Toks}{fs:List Fr}{m:Md}(h:x≠.eof):R ((x,p)::t) fs m=match step x fs m with
  | none=>none
  | some s=>R t s.1 s.2:=by
 unfold R
 rw[i6,run,js h]
theorem lD{x:Tok}{p:Nat}{t:Toks}{fs j:List Fr}{m n:Md}(h:x≠.eof)(e:step x fs m=some (j,n)):R ((x,p)::t) fs m=R t j n:=by rw[oh h,e]
theorem jz{x:Tok}{p:Nat}{t:Toks}{fs:List Fr}{m:Md}(h:x≠.eof)(e:step x fs m=none):R ((x,p)::t) fs m=none:=by rw[oh h,e]
theorem q_{p:Nat}{t:Toks}{fs:List Fr}{m:Md}:R ((.eof,p)::t) fs m=fin fs m:=by
 unfold R
 rw[i6,run,j4 rfl]
theorem Gm{x:Tok}{p:Nat}{t:Toks}:peek ((x,p)::t)=x:=rfl
noncomputable def Ht(k L:Nat)(t:Toks):Prop:=∀j,bU (peek t)=some j→j.kind<L∨(j.kind=4∧k≤4)
theorem oV{k:Nat}{fs:List Fr}{e:Exp}{c:Nat}(h:top fs≤k):fH k fs e c=(fs,e,c):=by
 cases fs with
 | nil=>rfl
 | cons f r=>rw[fH,js (show ¬k<f.place from Nat.not_lt.mpr h)]
theorem Ls:bU .eof=none:=by decide
theorem four{j:Jn}(h:j.kind=4):ik j.kind=5:=by rw[h];rfl
theorem wY{f:Fr}{fs:List Fr}{e:Exp}{k:Nat}{r:Toks}(F:f.ends=true)
  (h:∀j,bU (peek r)=some j→j.kind<f.place∨(j.kind=4∧k≤4∧f.place≤4∧(f.close e).2≤4∧top fs≤4)) :
  R r (f::fs) (.en e k)=R r fs (.en (f.close e).1 (f.close e).2):=by
 have z:∀c,cD (f::fs) e c=cD fs (f.close e).1 (f.close e).2:=fun c=>by rw[cD,j4 F]
 cases r with
 | nil=>rfl
 | cons x r =>
  obtain⟨x,p⟩:=x
  by_cases hx:x=.eof
  ·subst hx
   rw[q_,q_]
   unfold fin
   simp only[z]
  ·rw[oh hx,oh hx]
   have e2:step x (f::fs) (.en e k)=step x fs (.en (f.close e).1 (f.close e).2):=by
    unfold step
    simp only
    unfold goOn
    cases D:bU x with
    | none=>simp only[z]
    | some j =>
     simp only
     cases h j D with
     | inl h=>rw[fH,j4 h]
     | inr h =>
      obtain⟨h1,h2,G,L,J⟩:=h
      rw[oV (fs:=f::fs) (by show f.place≤_;omega),oV (by omega),four h1,j4 (by show k<5;omega),j4 (by show(f.close e).2<5;omega)]
   rw[e2]
theorem CJ{x:Tok}{p:Nat}{r:Toks}{fs:List Fr}{e:Exp}{k:Nat}{j:Jn}(hx:x≠.eof)(z:bU x=some j)(D:top fs≤j.kind)(F:ik j.kind≤k)(G:nest fs+(Fr.jn j e).around≤32):R ((x,p)::r) fs (.en e k)=R r (.jn j e::fs) .beg:=by
 refine lD hx ?_
 show goOn x fs e k=_
 unfold goOn
 rw[z]
 simp only[oV D]
 rw[js (by omega)]
 unfold push
 rw[js (by omega)]
theorem Hs{x:Tok}{p:Nat}{r:Toks}{fs:List Fr}{e:Exp}{k:Nat}{j:Jn}(hx:x≠.eof)(D:bU x=some j)(F:top fs≤j.kind)(z:32<nest fs+(Fr.jn j e).around):R ((x,p)::r) fs (.en e k)=none:=by
 refine jz hx ?_
 show goOn x fs e k=_
 unfold goOn
 rw[D]
 simp only[oV F]
 unfold push
 rw[j4 z,ite_self]
theorem zM{x:Tok}{j:Jn}{fs:List Fr}{e:Exp}(h:bU x=some j):around x fs e=none:=by
 unfold around
 rw[js,js,js,js]
 all_goals(rintro rfl;revert h;generalize z:bU _=g;have:g=none:=by rw[←z];decide)
 all_goals(subst this;intro h;cases h)
theorem Cr{fs:List Fr}{e:Exp}:around .eof fs e=none:=by
 unfold around
 rw[js (by decide),js (by decide),js (by decide),js (by decide)]
theorem shut{f:Fr}{fs:List Fr}{e:Exp}{k:Nat}{x:Tok}{p:Nat}{r:Toks}(G:f.ends=false)(L:f.place=0)(J:Ht k 0 ((x,p)::r)):R ((x,p)::r) (f::fs) (.en e k)=match around x (f::fs) e with
  | none=>none
  | some s=>R r s.1 s.2:=by
 have D:cD (f::fs) e k=(f::fs,e,k):=by rw[cD,js (by rw[G];exact ip)]
 by_cases hx:x=.eof
 ·subst hx
  rw[q_,Cr]
  unfold fin
  simp only[D]
 ·rw[oh hx]
  unfold step
  simp only
  unfold goOn
  cases z:bU x with
  | none=>simp only[D]
  | some j =>
   have F:around x (f::fs) e=none:=zM z
   cases J j z with
   | inl h=>exact absurd h (Nat.not_lt_zero _)
   | inr h =>
    simp only
    rw[F,oV (fs:=f::fs) (by show f.place≤_;omega),four h.1,j4 (by show k<5;omega)]
theorem bB{α β:Type}{p:Vbdeaa.P α}{f:α→Vbdeaa.P β}{t:Toks}{l:Nat}(h:p t=.error l):then_ p f t=.error l:=by unfold then_;rw[h]
theorem bK{α β:Type}{p:Vbdeaa.P α}{f:α→Vbdeaa.P β}{t r:Toks}{a:α}(h:p t=.ok (a,r)):then_ p f t=f a r:=by unfold then_;rw[h]
theorem iM{d:Nat}{t:Toks}(h:d≠0):opens d t=.ok (d-1,t.drop 1):=by unfold opens;rw[js h]
theorem gq{d:Nat}{t:Toks}(h:d=0):opens d t=.error (place t):=by unfold opens;rw[j4 h]
theorem sY{x:Tok}{p:Nat}{t:Toks}:must x ((x,p)::t)=.ok ((),t):=by unfold must;rw[j4 (jO Gm)];rfl
theorem oY{x:Tok}{t:Toks}(h:peek t≠x):must x t=.error (place t):=by unfold must;rw[gw h];rfl
noncomputable def MJ(n L:Nat)(fs:List Fr)(m:Md)(t:Toks):Except Nat (Exp×Toks)→Prop
 | .error _=>R t fs m=none
 | .ok (e,r)=>Q r∧r.length<n∧∃k,L≤k∧Ht k L r∧R t fs m=R r fs (.en e k)
noncomputable def yg(n:Nat)(fs:List Fr)(m:Md)(t:Toks):Except Nat (Exp×Toks)→Prop
 | .error _=>R t fs m=none
 | .ok (e,r)=>Q r∧r.length<n∧R t fs m=R r fs (.en e 9)
noncomputable def Cd(p L:Nat)(x:Tok):Prop:=(0<L→p=0→x≠wd "if")∧(3<L→p≤3→x≠wd "not")∧(7<L→x≠sg "-")
noncomputable def ES(k:Nat):Prop:=∀L d fs t,L≤8→d+nest fs=32→top fs≤L→Cd (top fs) L (peek t)→Q t→16*t.length+10≤k+L→MJ t.length L fs .beg t (exp k d L t)
noncomputable def JS(k:Nat):Prop:=∀L d fs t a c,M9 L→d+nest fs=32→top fs≤L→Q t→16*t.length+1≤k→L≤c→Ht c (L+1) t→MJ (t.length+1) L fs (.en a c) t (joins k d L a t)
noncomputable def AS(k:Nat):Prop:=∀d fs t,d+nest fs=32→top fs≤8→Cd (top fs) 8 (peek t)→Q t→16*t.length+1≤k→yg t.length fs .beg t (atom k d t)
noncomputable def Td(n:Nat)(h:Hd)(l:List Exp)(fs:List Fr)(t:Toks):Except Nat (Exps×Toks)→Prop
 | .error _=>R t (.lst h l::fs) .beg=none
 | .ok (es,r)=>Q r∧r.length<n∧R t (.lst h l::fs) .beg=R r fs (.en (h.make (app l es)) 9)
noncomputable def GS(k:Nat):Prop:=∀d fs h l t,d+nest (.lst h l::fs)=32→Q t→16*t.length+11≤k→Td t.length h l fs t (args k d t)
theorem Mz{l:List Exp}{e:Exp}{es:Exps}:app (l++[e]) es=app l (.cons e es):=by
 induction l with
 | nil=>rfl
 | cons a l j=>show Exps.cons a (app (l++[e]) es)=_;rw[j];rfl
theorem zL{fs:List Fr}{m:Md}:step .bad fs m=none:=by
 have D:bU .bad=none:=by decide
 have j:∀z e,around .bad z e=none:=by
  intro z e
  unfold around
  rw[js (by decide),js (by decide),js (by decide),js (by decide)]
 cases m with
 | beg=>rfl
 | nm n =>
  show(if Tok.bad=sg "(" then push fs (.lst (.call n) [])else goOn .bad fs (.name n) 9)=none
  rw[js (by decide)]
  unfold goOn
  rw[D]
  exact j _ _
 | br f=>rfl
 | en e k =>
  show goOn .bad fs e k=none
  unfold goOn
  rw[D]
  exact j _ _
theorem sO{fs:List Fr}{f:Fr}{d:Nat}(h:d+nest fs=32)(hd:d≠0)(j:f.around=1):push fs f=some (f::fs,.beg)∧d-1+nest (f::fs)=32:=by
 unfold push
 rw[j]
 refine⟨js (by omega),?_⟩
 rw[nest,j]
 omega
theorem wV{fs:List Fr}{f:Fr}{d:Nat}(h:d+nest fs=32)(hd:d=0)(j:f.around=1):push fs f=none:=by
 unfold push
 rw[j]
 exact j4 (by omega)
theorem due{k c:Nat}{f:Fr}{fs:List Fr}{e:Exp}{x:Tok}{r:Toks}(D:f.ends=false)(G:f.place=0)(z:Q r)(F:Ht c 0 r)(hx:x≠.eof∧x≠.bad)(J:∀y,y≠x→around y (f::fs) e=none) :
  (∃p j,r=(x,p)::j∧Q j∧R r (f::fs) (.en e c)=match around x (f::fs) e with
   | none=>none
   | some s=>R j s.1 s.2)∨(peek r≠x∧R r (f::fs) (.en e c)=none):=by
 obtain⟨y,p,j,rfl⟩:=z.cons
 by_cases h:y=x
 ·subst h
  exact .inl ⟨p,j,rfl,z.tail hx.1 hx.2,shut D G F⟩
 ·exact .inr ⟨h,by rw[shut D G F,J y h]⟩
end PM
end
section
set_option maxRecDepth 10000
namespace PM
open Vbdeaa (Exp Exps Un Bin Tok Toks Text text sg wd peek place then_ give isTok must opens joiner oneOf exp joins atom args wrong)
open MX (my o7 mz o6 mj mq gw jO M9)
theorem Cq{y:Tok}{fs:List Fr}{e:Exp}(h:y≠wd "then"):around y (.if0::fs) e=none:=by
 unfold around
 rw[js h]
 split
 ·rfl
 ·split
  ·rfl
  ·split<;>rfl
theorem Cp{y:Tok}{fs:List Fr}{c e:Exp}(h:y≠wd "else"):around y (.if1 c::fs) e=none:=by
 unfold around
 rw[js h]
 split
 ·rfl
 ·split
  ·rfl
  ·split<;>rfl
theorem Cu{y:Tok}{f:Fr}{fs:List Fr}{e:Exp}(j:f=.grp∨∃o,f=.un o)(h:y≠sg ")"):around y (f::fs) e=none:=by
 unfold around
 rw[js h]
 rcases j with rfl | ⟨o,rfl⟩
 ·split
  ·rfl
  ·split
   ·rfl
   ·split<;>rfl
 ·split
  ·rfl
  ·split
   ·rfl
   ·split<;>rfl
theorem qZ{f:Fr}{fs:List Fr}{e:Exp}(h:f.brk=true):around (sg ")") (f::fs) e=some (fs,.en (f.close e).1 (f.close e).2):=by
 unfold around
 rw[js (by decide),js (by decide),js (by decide),j4 rfl]
 simp only[h]
 rfl
theorem yc{h:Hd}{l:List Exp}{fs:List Fr}{e:Exp}:around (sg ",") (.lst h l::fs) e=some (.lst h (l++[e])::fs,.beg):=by
 unfold around
 rw[js (by decide),js (by decide),j4 rfl]
theorem Cm{y:Tok}{h:Hd}{l:List Exp}{fs:List Fr}{e:Exp}(h1:y≠sg ",")(h2:y≠sg ")"):around y (.lst h l::fs) e=none:=by
 unfold around
 rw[js h1,js h2]
 split
 ·rfl
 ·split<;>rfl
theorem Qc{k:Nat}(hE:ES k)(hG:GS k):GS (k+1):=by
 intro d fs h l t O hQ hk
 have h0:=hE 0 d (.lst h l::fs) t (by omega) O (f' _) ⟨fun z=>absurd z (by omega),fun z=>absurd z (by omega),fun z=>absurd z (by omega)⟩ hQ (by omega)
 have Y:args (k+1) d t=then_ (exp k d 0) (fun a=>fun t=>if isTok t (sg ",")=true then then_ (args k d) (fun l=>give (.cons a l)) (t.drop 1)else then_ (must (sg ")")) (fun _=>give (.cons a .nil)) t) t:=by rw[Vbdeaa.args]
 rw[Y]
 show Td t.length h l fs t (then_ (exp k d 0) (fun a=>fun t=>if isTok t (sg ",")=true then then_ (args k d) (fun l=>give (.cons a l)) (t.drop 1)else then_ (must (sg ")")) (fun _=>give (.cons a .nil)) t) t)
 cases G:exp k d 0 t with
 | error p =>
  rw[G]at h0
  rw[bB G]
  exact h0
 | ok a =>
  obtain⟨a,r⟩:=a
  rw[G]at h0
  obtain⟨L,J,c,q3,U,j⟩:=h0
  rw[bK G]
  obtain⟨y,p,D,rfl⟩:=L.cons
  rw[shut rfl rfl U]at j
  by_cases h1:y=sg ","
  ·subst h1
   simp only[jO (x:=sg ",") (t:=(sg ",",p)::D) rfl,if_true]
   rw[yc]at j
   have qr:Q D:=L.tail (by decide) (by decide)
   have hl:(D:Toks).length<t.length:=by simp only[cr]at J;omega
   have h2:=hG d fs h (l++[a]) D O qr (by simp only[cr]at J;omega)
   show Td t.length h l fs t (then_ (args k d) (fun l=>give (.cons a l)) D)
   cases F:args k d D with
   | error p2 =>
    rw[F]at h2
    rw[bB F]
    exact j.trans h2
   | ok es =>
    obtain⟨es,r2⟩:=es
    rw[F]at h2
    rw[bK F]
    obtain⟨Z,w2,S⟩:=h2
    refine⟨Z,Nat.lt_trans w2 hl,j.trans ?_⟩
    rw[Mz]at S
    exact S
  ·rw[gw (x:=sg ",") (t:=(y,p)::D) h1]
   simp only[Bool.false_eq_true,if_false]
   by_cases h2:y=sg ")"
   ·subst h2
    rw[bK sY]
    rw[qZ rfl]at j
    exact⟨L.tail (by decide) (by decide),by simp only[cr]at J;omega,j⟩
   ·rw[bB (oY (t:=(y,p)::D) h2)]
    rw[Cm h1 h2]at j
    exact j
theorem Ly{k d:Nat}{f:Fr}{fs:List Fr}{t:Toks}{g:Exp→Exp}(Y:f=.grp∨∃o,f=.un o)(hb:f.brk=true)(S:f.ends=false)(hp:f.place=0)(U:∀e,f.close e=(g e,9))(hE:ES k)(L:d+nest (f::fs)=32)(O:Q t)(hk:16*t.length+10≤k) :
  match then_ (exp k d 0) (fun a=>then_ (must (sg ")")) fun _=>give (g a)) t with
  | .error _=>R t (f::fs) .beg=none
  | .ok (e,r)=>Q r∧r.length<t.length∧R t (f::fs) .beg=R r fs (.en e 9):=by
 have h0:=hE 0 d (f::fs) t (by omega) L (by show f.place≤0;omega) ⟨fun z=>absurd z (by omega),fun z=>absurd z (by omega),fun z=>absurd z (by omega)⟩ O (by omega)
 cases D:exp k d 0 t with
 | error p =>
  rw[D]at h0
  rw[bB D]
  exact h0
 | ok a =>
  obtain⟨a,r⟩:=a
  rw[D]at h0
  obtain⟨F,J,c,q3,G,j⟩:=h0
  rw[bK D]
  obtain⟨y,p,Z,rfl⟩:=F.cons
  rw[shut S hp G]at j
  by_cases h2:y=sg ")"
  ·subst h2
   rw[bK sY]
   rw[qZ hb,U]at j
   exact⟨F.tail (by decide) (by decide),by simp only[cr]at J;omega,j⟩
  ·rw[bB (oY (t:=(y,p)::Z) h2)]
   rw[Cu Y h2]at j
   exact j
theorem Nt{x:Tok}{fs:List Fr}{n:Text}:step x fs (.nm n)=if x=sg "(" then push fs (.lst (.call n) [])else goOn x fs (.name n) 9:=rfl
theorem Nu{x:Tok}{fs:List Fr}{f:Fr}:step x fs (.br f)=if x=sg "(" then push fs f else none:=rfl
theorem Iw{fs:List Fr}:step (sg "-") fs .beg=push fs (.un .neg):=rfl
theorem Gq{w:Text}{o:Un}(h:oneOf (.word w)=some o):(Fr.un o).brk=true∧(Fr.un o).ends=false∧(Fr.un o).place=0∧nM o=9∧w≠text "if"∧w≠text "not"∧w≠text "min"∧w≠text "max":=by
 have hw:w≠text "if"∧w≠text "not"∧w≠text "min"∧w≠text "max":=by
  refine⟨?_,?_,?_,?_⟩
  all_goals(rintro rfl;revert h;generalize j:oneOf _=g;have:g=none:=by rw[←j];decide)
  all_goals(subst this;intro h;cases h)
 have z:o=.floor∨o=.ceil∨o=.abs∨o=.sign∨o=.num∨o=.den:=by
  unfold oneOf at h
  repeat' split at h
  all_goals(first | cases h | skip)
  all_goals simp
 refine⟨?_,?_,?_,?_,hw⟩<;>rcases z with rfl | rfl | rfl | rfl | rfl | rfl<;>rfl
theorem ux{fs:List Fr}{f:Fr}{x:Tok}{p:Nat}{r:Toks}{d:Nat}(z:d+nest fs=32)(j:f.around=1)(m:Md)(D:step (sg "(") fs m=push fs f) :
  (d=0→R ((sg "(",p)::r) fs m=none)∧(d≠0→R ((sg "(",p)::r) fs m=R r (f::fs) .beg∧d-1+nest (f::fs)=32):=by
 constructor
 ·intro h
  exact jz (by decide) (by rw[D];exact wV z h j)
 ·intro h
  exact⟨lD (by decide) (by rw[D];exact(sO z h j).1),(sO z h j).2⟩
theorem Qt{k:Nat}(hE:ES k)(hG:GS k):AS (k+1):=by
 intro d fs t Y ht hc hQ hk
 obtain⟨x,p,t',rfl⟩:=hQ.cons
 rw[cr]at hk
 have G:x≠.eof→x≠.bad→Q t':=fun h1 h2=>hQ.tail h1 h2
 rw[Vbdeaa.atom]
 have lst:∀(h:Hd)(m:Md),Q t'→R ((x,p)::t') fs .beg=R t' fs m→step (sg "(") fs m=push fs (.lst h [])→isTok t' (sg "(")=true→yg ((x,p)::t').length fs .beg ((x,p)::t') ((then_ (opens d) fun e=>then_ (args k e) fun l=>give (h.make l)) t'):=by
  intro h m D e1 F j
  obtain⟨y,p2,r,rfl⟩:=D.cons
  have L:y=sg "(":=beq_iff_eq.mp j
  subst L
  have od:=ux (p:=p2) (r:=r) (x:=.eof) Y (f:=.lst h []) rfl m F
  by_cases hd:d=0
  ·rw[bB (gq hd)]
   exact e1.trans (od.1 hd)
  ·rw[bK (iM hd)]
   obtain⟨J,S⟩:=od.2 hd
   have g:=hG (d-1) fs h [] r S (D.tail (by decide) (by decide)) (by simp only[cr]at hk;omega)
   show yg _ fs .beg _ (then_ (args k (d-1)) (fun l=>give (h.make l)) r)
   cases U:args k (d-1) r with
   | error q=>rw[U]at g;rw[bB U];exact e1.trans (J.trans g)
   | ok es =>
    obtain⟨es,r2⟩:=es
    rw[U]at g
    rw[bK U]
    obtain⟨g1,g2,g3⟩:=g
    exact⟨g1,by simp only[cr];omega,e1.trans (J.trans g3)⟩
 have brk:∀(o:Un)(m:Md),(Fr.un o).brk=true→(Fr.un o).ends=false→(Fr.un o).place=0→nM o=9→Q t'→R ((x,p)::t') fs .beg=R t' fs m→step (sg "(") fs m=push fs (.un o)→isTok t' (sg "(")=true→yg ((x,p)::t').length fs .beg ((x,p)::t') ((then_ (opens d) fun e=>then_ (exp k e 0) fun a=>then_ (must (sg ")")) fun _=>give (.un o a)) t'):=by
  intro o m b1 Z b3 b4 D e1 F j
  obtain⟨y,p2,r,rfl⟩:=D.cons
  have L:y=sg "(":=beq_iff_eq.mp j
  subst L
  have od:=ux (p:=p2) (r:=r) (x:=.eof) Y (f:=.un o) (by rfl) m F
  by_cases hd:d=0
  ·rw[bB (gq hd)]
   exact e1.trans (od.1 hd)
  ·rw[bK (iM hd)]
   obtain⟨J,S⟩:=od.2 hd
   have g:=Ly (g:=fun a=>.un o a) (t:=r) (.inr ⟨o,rfl⟩) b1 Z b3 (fun e=>by show(Exp.un o e,nM o)=_;rw[b4]) hE S (D.tail (by decide) (by decide)) (by simp only[cr]at hk;omega)
   show yg _ fs .beg _ (then_ (exp k (d-1) 0) (fun a=>then_ (must (sg ")")) fun _=>give (.un o a)) r)
   revert g
   cases(then_ (exp k (d-1) 0) (fun a=>then_ (must (sg ")")) fun _=>give (Exp.un o a)) r)with
   | error q=>intro g;exact e1.trans (J.trans g)
   | ok es =>
    obtain⟨es,r2⟩:=es
    intro g
    obtain⟨g1,g2,g3⟩:=g
    exact⟨g1,by simp only[cr];omega,e1.trans (J.trans g3)⟩
 cases x with
 | num q=>exact⟨G (by simp) (by simp),by simp,lD (by simp) rfl⟩
 | name n =>
  show yg _ fs .beg _ (if isTok t' (sg "(")=true then(then_ (opens d) fun e=>then_ (args k e) fun l=>give (.use n l)) t' else .ok (.name n,t'))
  have D:=G (by simp) (by simp)
  have e1:R ((Tok.name n,p)::t') fs .beg=R t' fs (.nm n):=lD (by simp) rfl
  by_cases j:isTok t' (sg "(")=true
  ·rw[j4 j]
   exact lst (.call n) (.nm n) D e1 (by rw[Nt,j4 rfl]) j
  ·rw[js j]
   refine⟨D,by simp,e1.trans ?_⟩
   obtain⟨y,p2,r,rfl⟩:=D.cons
   have L:y≠sg "(":=fun z=>j (by rw[z];rfl)
   by_cases O:y=.eof
   ·subst O
    rw[q_,q_]
    rfl
   ·rw[oh O,oh O]
    have:step y fs (.nm n)=step y fs (.en (.name n) 9):=by
     show(if y=sg "(" then _ else goOn y fs (.name n) 9)=goOn y fs (.name n) 9
     rw[js L]
    rw[this]
 | sign s =>
  show yg _ fs .beg _ (if s=text "(" then(then_ (opens d) fun e=>then_ (exp k e 0) fun a=>then_ (must (sg ")")) fun _=>give a) ((Tok.sign s,p)::t')else .error (place ((Tok.sign s,p)::t')))
  by_cases hs:s=text "("
  ·subst hs
   rw[j4 rfl]
   have od:=ux (p:=p) (r:=t') (x:=.eof) Y (f:=.grp) rfl .beg rfl
   by_cases hd:d=0
   ·rw[bB (gq hd)]
    exact od.1 hd
   ·rw[bK (iM hd)]
    obtain⟨J,S⟩:=od.2 hd
    have g:=Ly (g:=fun a=>a) (t:=t') (f:=.grp) (.inl rfl) rfl rfl rfl (fun e=>rfl) hE S (G (by simp) (by simp)) (by omega)
    show yg _ fs .beg _ (then_ (exp k (d-1) 0) (fun a=>then_ (must (sg ")")) fun _=>give a) t')
    revert g
    cases(then_ (exp k (d-1) 0) (fun a=>then_ (must (sg ")")) fun _=>give a) t')with
    | error q=>intro g;exact Eq.trans J g
    | ok es =>
     obtain⟨es,r2⟩:=es
     intro g
     obtain⟨g1,g2,g3⟩:=g
     exact⟨g1,by simp only[cr];omega,Eq.trans J g3⟩
  ·rw[js hs]
   have h1:Tok.sign s≠sg "(":=fun z=>hs (by injection z)
   have h2:Tok.sign s≠sg "-":=hc.2.2 (by omega)
   refine jz (by simp) ?_
   show(if Tok.sign s=sg "(" then push fs .grp else if Tok.sign s=sg "-" then push fs (.un .neg)else none)=none
   rw[js h1,js h2]
 | word w =>
  show yg _ fs .beg _ (if w=text "min"∨w=text "max" then
    (if isTok t' (sg "(")=true then(then_ (opens d) fun e=>then_ (args k e) fun l=>give (.best (decide (w=text "max")) l)) t' else .error (place t'))
   else match oneOf (.word w)with
    | some o=>if isTok t' (sg "(")=true then(then_ (opens d) fun e=>then_ (exp k e 0) fun a=>then_ (must (sg ")")) fun _=>give (.un o a)) t' else .error (place t')
    | none=>.error (place ((Tok.word w,p)::t')))
  have D:=G (by simp) (by simp)
  have ni:¬(w=text "if"∧top fs=0):=by
   rintro⟨rfl,h⟩
   exact hc.1 (by omega) h rfl
  have nn:¬(w=text "not"∧top fs≤3):=by
   rintro⟨rfl,h⟩
   exact hc.2.1 (by omega) h rfl
  have sb:step (.word w) fs .beg=match oneOf (.word w)with
    | some o=>some (fs,.br (.un o))
    | none=>if w=text "min" then some (fs,.br (.lst (.best false) []))else if w=text "max" then some (fs,.br (.lst (.best true) []))else none:=by
   show du w fs=_
   unfold du
   rw[js ni,js nn]<;>rfl
  have nb:∀f,isTok t' (sg "(")≠true→R t' fs (.br f)=none:=by
   intro f j
   obtain⟨y,p2,r,rfl⟩:=D.cons
   have L:y≠sg "(":=fun z=>j (by rw[z];rfl)
   by_cases O:y=.eof
   ·subst O
    rw[q_]
    rfl
   ·exact jz O (by show(if y=sg "(" then _ else _)=_;rw[js L])
  have br:∀f,step (sg "(") fs (.br f)=push fs f:=fun f=>by rw[Nu,j4 rfl]
  by_cases F:w=text "min"∨w=text "max"
  ·rw[j4 F]
   have e1:R ((Tok.word w,p)::t') fs .beg=R t' fs (.br (.lst (.best (decide (w=text "max"))) [])):=by
    refine lD (by simp) (sb.trans ?_)
    rcases F with rfl | rfl<;>rfl
   by_cases j:isTok t' (sg "(")=true
   ·rw[j4 j]
    exact lst (.best (decide (w=text "max"))) _ D e1 (br _) j
   ·rw[js j]
    exact e1.trans (nb _ j)
  ·rw[js F]
   cases ho:oneOf (.word w)with
   | none =>
    refine jz (by simp) (sb.trans ?_)
    rw[ho]
    simp only
    rw[js fun z=>F (.inl z),js fun z=>F (.inr z)]
   | some o =>
    simp only
    obtain⟨b1,Z,b3,b4,_⟩:=Gq ho
    have e1:R ((Tok.word w,p)::t') fs .beg=R t' fs (.br (.un o)):=by
     refine lD (by simp) (sb.trans ?_)
     rw[ho]
    by_cases j:isTok t' (sg "(")=true
    ·rw[j4 j]
     exact brk o _ b1 Z b3 b4 D e1 (br _) j
    ·rw[js j]
     exact e1.trans (nb _ j)
 | eof=>exact q_
 | bad=>exact jz (by simp) zL
end PM
end
section
set_option maxRecDepth 10000
namespace PM
open Vbdeaa (Exp Exps Un Bin Tok Toks Text text sg wd peek place then_ give isTok must opens joiner oneOf exp joins atom args wrong)
open MX (my o7 mz o6 mj mq gw jO M9)
noncomputable def rA:List (Tok×Jn):=[(wd "and",.and),(wd "or",.or),(sg "^",.bin .pow),(sg "=",.bin .eq),(sg "<>",.bin .ne),(sg "<",.bin .lt),(sg "<=",.bin .le),(sg ">",.bin .gt),(sg ">=",.bin .ge),(sg "+",.bin .add),(sg "-",.bin .sub),(sg "*",.bin .mul),(sg "/",.bin .div),(sg "//",.bin .quo),(sg "%",.bin .rem)]
noncomputable def PP(L:Nat)(x:Tok):Option Jn:=if L=1 then(if x=wd "or" then some .or else none)else if L=2 then(if x=wd "and" then some .and else none)else(joiner L x).map .bin
theorem tu{x:Tok}(h:∀p∈rA,x≠p.1):bU x=none∧∀L,PP L x=none:=by
 have g:∀i (hi:i<rA.length),x≠rA[i].1:=fun i hi=>h _ (List.getElem_mem hi)
 have h0:x≠wd "and":=g 0 (by decide)
 have h1:x≠wd "or":=g 1 (by decide)
 have h2:x≠sg "^":=g 2 (by decide)
 have U:x≠sg "=":=g 3 (by decide)
 have h4:x≠sg "<>":=g 4 (by decide)
 have Z:x≠sg "<":=g 5 (by decide)
 have Y:x≠sg "<=":=g 6 (by decide)
 have h7:x≠sg ">":=g 7 (by decide)
 have h8:x≠sg ">=":=g 8 (by decide)
 have h9:x≠sg "+":=g 9 (by decide)
 have D:x≠sg "-":=g 10 (by decide)
 have j:x≠sg "*":=g 11 (by decide)
 have G:x≠sg "/":=g 12 (by decide)
 have F:x≠sg "//":=g 13 (by decide)
 have z:x≠sg "%":=g 14 (by decide)
 have O:joiner 4 x=none:=by unfold joiner;rw[j4 rfl,js U,js h4,js Z,js Y,js h7,js h8]
 have S:joiner 5 x=none:=by unfold joiner;rw[js (by decide),j4 rfl,js h9,js D]
 have J:∀L,L≠4→L≠5→joiner L x=none:=fun L a b=>by unfold joiner;rw[js a,js b,js j,js G,js F,js z]
 constructor
 ·unfold bU
  rw[js h0,js h1,js h2,O,S,J 6 (by decide) (by decide)]
  rfl
 ·intro L
  unfold PP
  split
  ·rfl
  ·split
   ·rfl
   ·by_cases a:L=4
    ·subst a;rw[O];rfl
    ·by_cases b:L=5
     ·subst b;rw[S];rfl
     ·rw[J L a b];rfl
theorem zc:∀p∈rA,bU p.1=some p.2∧p.1≠.eof∧p.1≠.bad∧(p.2.kind=1∨p.2.kind=2∨p.2.kind=4∨p.2.kind=5∨p.2.kind=6∨p.2.kind=8)∧(∀L∈[1,2,4,5,6],PP L p.1=if p.2.kind=L then some p.2 else none)∧(p.1=sg "^"↔p.2.kind=8):=by decide
theorem lX{x:Tok}{j:Jn}(h:bU x=some j):x≠.eof∧x≠.bad∧(j.kind=1∨j.kind=2∨j.kind=4∨j.kind=5∨j.kind=6∨j.kind=8)∧(∀L∈[1,2,4,5,6],PP L x=if j.kind=L then some j else none)∧(x=sg "^"↔j.kind=8):=by
 by_cases hx:∃p∈rA,x=p.1
 ·obtain⟨p,z,rfl⟩:=hx
  obtain⟨a,b⟩:=zc p z
  rw[a]at h
  cases h
  exact b
 ·rw[(tu fun p z e=>hx ⟨p,z,e⟩).1]at h
  cases h
theorem Ez{x:Tok}{L:Nat}{j:Jn}(D:L∈[1,2,4,5,6])(h:PP L x=some j):bU x=some j∧j.kind=L:=by
 by_cases hx:∃p∈rA,x=p.1
 ·obtain⟨p,z,rfl⟩:=hx
  obtain⟨a,b,c,d,e,f⟩:=zc p z
  rw[e L D]at h
  split at h
  ·cases h
   exact⟨a,by assumption⟩
  ·cases h
 ·rw[(tu fun p z e=>hx ⟨p,z,e⟩).2]at h
  cases h
theorem Lq{k d L:Nat}{a:Exp}{t:Toks}(z:M9 L):joins (k+1) d L a t=match PP L (peek t)with
  | some j=>then_ (exp k d (L+1)) (fun b=>joins k d L (j.make a b)) (t.drop 1)
  | none=>.ok (a,t):=by
 rw[Vbdeaa.joins]
 unfold PP
 by_cases h1:L=1
 ·subst h1
  simp only[if_true]
  by_cases h:peek t=wd "or"
  ·rw[jO h,j4 rfl,j4 h];rfl
  ·rw[gw h,js h];rfl
 ·simp only[h1,if_false]
  by_cases h2:L=2
  ·subst h2
   simp only[if_true]
   by_cases h:peek t=wd "and"
   ·rw[jO h,j4 rfl,j4 h];rfl
   ·rw[gw h,js h];rfl
  ·simp only[h2,if_false]
   cases joiner L (peek t)<;>rfl
theorem Es{L:Nat}(h:M9 L):L∈[1,2,4,5,6]∧L≤6∧L≠4∧1≤L:=by
 rcases h with rfl | rfl | rfl | rfl<;>decide
theorem uv{j:Jn}{a b:Exp}{fs:List Fr}{c:Nat}{r:Toks}(G:top fs≤j.kind)(F:e_ j.kind≤c)(D:Ht c (e_ j.kind) r)(z:j.kind≤2∨5≤e_ j.kind):R r (.jn j a::fs) (.en b c)=R r fs (.en (j.make a b) j.kind):=by
 refine wY (f:=.jn j a) rfl fun i hi=>?_
 cases D i hi with
 | inl h=>exact .inl h
 | inr h =>
  refine .inr ⟨h.1,h.2,?_⟩
  have:(Fr.jn j a).place=e_ j.kind:=rfl
  have e:((Fr.jn j a).close b).2=j.kind:=rfl
  rw[this,e]
  rcases z with z | z
  ·have:e_ j.kind=j.kind+1:=by unfold e_;rw[js (by omega)]
   omega
  ·omega
theorem Px{k:Nat}(hE:ES k)(hJ:JS k):JS (k+1):=by
 intro L d fs t a c S hn ht O Y hc hP
 obtain⟨m1,m2,m3,m4⟩:=Es S
 rw[Lq S]
 cases Z:PP L (peek t)with
 | none =>
  refine⟨O,Nat.lt_succ_self _,c,hc,?_,rfl⟩
  intro j h
  cases hP j h with
  | inl g =>
   have:=(lX h).2.2.2.1 L m1
   rw[Z]at this
   by_cases e:j.kind=L
   ·rw[j4 e]at this;cases this
   ·exact .inl (by omega)
  | inr g=>exact .inr g
 | some j =>
  simp only
  obtain⟨y,p,r,rfl⟩:=O.cons
  obtain⟨j1,J⟩:=Ez m1 Z
  have G:=lX j1
  have ks:e_ j.kind=L+1:=by unfold e_;rw[J,js (by omega)]
  have kf:ik j.kind=L:=by unfold ik;rw[J,js m3,js (by omega)]
  have ar:(Fr.jn j a).around=0:=by show(if j.kind=8 then 1 else 0)=0;rw[J,js (by omega)]
  have e1:R ((y,p)::r) fs (.en a c)=R r (.jn j a::fs) .beg:=CJ G.1 j1 (by omega) (by omega) (by rw[ar];omega)
  have qr:Q r:=O.tail G.1 G.2.1
  have tp:top (.jn j a::fs)=L+1:=ks
  have g:=hE (L+1) d (.jn j a::fs) r (by omega) (by rw[nest,ar];omega) (by omega) ⟨fun _ z=>by omega,fun _ z=>by omega,fun z=>by omega⟩ qr (by simp only[cr]at Y;omega)
  show MJ _ L fs _ _ (then_ (exp k d (L+1)) (fun b=>joins k d L (j.make a b)) r)
  cases F:exp k d (L+1) r with
  | error q=>rw[F]at g;rw[bB F];exact e1.trans g
  | ok b =>
   obtain⟨b,D⟩:=b
   rw[F]at g
   rw[bK F]
   obtain⟨g1,g2,c2,g3,U,g5⟩:=g
   have e2:=uv (a:=a) (b:=b) (fs:=fs) (j:=j) (c:=c2) (r:=D) (by omega) (by omega) (by rw[ks];exact U) (by omega)
   have P2:Ht j.kind (L+1) D:=by
    intro i hi
    cases U i hi with
    | inl h=>exact .inl h
    | inr h=>exact .inr ⟨h.1,by omega⟩
   have g':=hJ L d fs D (j.make a b) j.kind S hn ht g1 (by simp only[cr]at Y;omega) (by omega) P2
   have e3:R ((y,p)::r) fs (.en a c)=R D fs (.en (j.make a b) j.kind):=e1.trans (g5.trans e2)
   revert g'
   cases joins k d L (j.make a b) D with
   | error q=>intro g';exact e3.trans g'
   | ok z =>
    obtain⟨z,r3⟩:=z
    intro g'
    obtain⟨w1,w2,c3,w3,w4,w5⟩:=g'
    exact⟨w1,by simp only[cr];omega,c3,w3,w4,e3.trans w5⟩
theorem MJ.Vp{n L:Nat}{fs:List Fr}{m:Md}{t:Toks}{x:Except Nat (Exp×Toks)}(h:MJ n (L+1) fs m t x)(J:L=0∨L=3∨L=7):MJ n L fs m t x:=by
 cases x with
 | error p=>exact h
 | ok z =>
  obtain⟨e,r⟩:=z
  obtain⟨h1,h2,k,G,F,D⟩:=h
  refine⟨h1,h2,k,by omega,?_,D⟩
  intro j g
  have:=(lX g).2.2.1
  cases F j g with
  | inl z=>exact .inl (by omega)
  | inr z=>exact .inr z
theorem yS{n k d L:Nat}{f:Fr}{fs:List Fr}{x:Tok}{p:Nat}{r:Toks}{o:Un}(hE:ES k)(hf:f=.un o)(ho:(o=.not∧L=3)∨(o=.neg∧L=7))(hx:x≠.eof∧x≠.bad)(Y:step x fs .beg=push fs f)(U:d+nest fs=32)(ht:top fs≤L)(hQ:Q ((x,p)::r))(hk:16*r.length+10≤k+L)(hl:r.length<n) :
  MJ n L fs .beg ((x,p)::r) ((then_ (opens d) fun e=>then_ (exp k e L) fun a=>give (.un o a)) ((x,p)::r)):=by
 subst hf
 have F:(Fr.un o).around=1:=rfl
 have D:(Fr.un o).place=L∧(Fr.un o).ends=true∧nM o=L:=by rcases ho with⟨rfl,rfl⟩ | ⟨rfl,rfl⟩<;>exact⟨rfl,rfl,rfl⟩
 by_cases hd:d=0
 ·rw[bB (gq hd)]
  exact jz hx.1 (by rw[Y];exact wV U hd F)
 ·rw[bK (iM hd)]
  obtain⟨o1,o2⟩:=sO U hd F
  have e1:R ((x,p)::r) fs .beg=R r (.un o::fs) .beg:=lD hx.1 (by rw[Y];exact o1)
  have tp:top (.un o::fs)=L:=D.1
  have g:=hE L (d-1) (.un o::fs) r (by omega) o2 (by omega) ⟨fun _ z=>by omega,fun z1 z2=>by omega,fun z=>by omega⟩ (hQ.tail hx.1 hx.2) hk
  show MJ n L fs _ _ (then_ (exp k (d-1) L) (fun a=>give (.un o a)) r)
  cases J:exp k (d-1) L r with
  | error q=>rw[J]at g;rw[bB J];exact e1.trans g
  | ok b =>
   obtain⟨b,G⟩:=b
   rw[J]at g
   rw[bK J]
   obtain⟨g1,g2,Z,g3,S,g5⟩:=g
   have e2:R G (.un o::fs) (.en b Z)=R G fs (.en (.un o b) L):=by
    have:=wY (f:=.un o) (fs:=fs) (e:=b) (k:=Z) (r:=G) D.2.1 fun j O=>by
     have ec:((Fr.un o).close b).2=L:=D.2.2
     rw[D.1,ec]
     cases S j O with
     | inl z=>exact .inl z
     | inr z=>exact .inr ⟨z.1,z.2,by omega,by omega,by omega⟩
    rw[this]
    show R G fs (.en (.un o b) (nM o))=_
    rw[D.2.2]
   refine⟨g1,by omega,L,f' _,?_,e1.trans (g5.trans e2)⟩
   intro j O
   cases S j O with
   | inl z=>exact .inl z
   | inr z=>exact .inr ⟨z.1,by omega⟩
theorem Qj{k:Nat}(J:ES k)(hJ:JS k)(hA:AS k):ES (k+1):=by
 intro L d fs t hL O ht hc S hk
 have Y:L=0∨L=3∨L=4∨L=7∨L=8∨M9 L:=by unfold M9;omega
 obtain⟨x,p,r,rfl⟩:=S.cons
 have ac:((x,p)::r).length=r.length+1:=rfl
 rcases Y with rfl | rfl | rfl | rfl | rfl | Z
 ·by_cases hx:x=wd "if"
  ·subst hx
   have ee:exp (k+1) d 0 ((wd "if",p)::r)=(then_ (opens d) fun e=>then_ (exp k e 0) fun c=>then_ (must (wd "then")) fun _=>then_ (exp k e 0) fun a=>then_ (must (wd "else")) fun _=>then_ (exp k e 0) fun b=>give (.cond c a b)) ((wd "if",p)::r):=by rw[Vbdeaa.exp.eq_2];rfl
   rw[ee]
   have t0:top fs=0:=by omega
   have hs:step (wd "if") fs .beg=push fs .if0:=by
    show du (text "if") fs=_
    unfold du
    rw[j4 ⟨rfl,t0⟩]
   have no:∀(f:Fr),Cd (top (f::fs)) 0 (peek r):=fun f=>⟨fun z=>absurd z (by omega),fun z=>absurd z (by omega),fun z=>absurd z (by omega)⟩
   by_cases hd:d=0
   ·rw[bB (gq hd)]
    exact jz (by decide) (by rw[hs];exact wV O hd rfl)
   ·rw[bK (iM hd)]
    obtain⟨o1,o2⟩:=sO (f:=.if0) O hd rfl
    have e1:R ((wd "if",p)::r) fs .beg=R r (.if0::fs) .beg:=lD (by decide) (by rw[hs];exact o1)
    have g:=J 0 (d-1) (.if0::fs) r (by omega) o2 (f' _) ⟨fun z=>absurd z (by omega),fun z=>absurd z (by omega),fun z=>absurd z (by omega)⟩ (S.tail (by decide) (by decide)) (by omega)
    show MJ _ 0 fs _ _ (then_ (exp k (d-1) 0) (fun c=>then_ (must (wd "then")) fun _=>then_ (exp k (d-1) 0) fun a=>then_ (must (wd "else")) fun _=>then_ (exp k (d-1) 0) fun b=>give (.cond c a b)) r)
    cases D:exp k (d-1) 0 r with
    | error q=>rw[D]at g;rw[bB D];exact e1.trans g
    | ok c =>
     obtain⟨c,U⟩:=c
     rw[D]at g
     rw[bK D]
     obtain⟨g1,g2,c2,g3,g4,G⟩:=g
     rcases due (k:=0) (f:=.if0) (fs:=fs) (e:=c) (x:=wd "then") rfl rfl g1 g4 (by decide) (fun y hy=>Cq hy)with⟨p2,F,rfl,q3,e3⟩ | ⟨aa,e3⟩
     ·rw[bK sY]
      have e4:R r (.if0::fs) .beg=R F (.if1 c::fs) .beg:=G.trans e3
      simp only[cr]at g2
      have g:=J 0 (d-1) (.if1 c::fs) F (by omega) o2 (f' _) ⟨fun z=>absurd z (by omega),fun z=>absurd z (by omega),fun z=>absurd z (by omega)⟩ q3 (by omega)
      cases D:exp k (d-1) 0 F with
      | error q=>rw[D]at g;rw[bB D];exact e1.trans (e4.trans g)
      | ok a =>
       obtain⟨a,r4⟩:=a
       rw[D]at g
       rw[bK D]
       obtain⟨f1,f2,c3,f3,f4,f5⟩:=g
       rcases due (k:=0) (f:=.if1 c) (fs:=fs) (e:=a) (x:=wd "else") rfl rfl f1 f4 (by decide) (fun y hy=>Cp hy)with⟨p3,r5,rfl,q5,e5⟩ | ⟨aa,e5⟩
       ·rw[bK sY]
        have e6:R F (.if1 c::fs) .beg=R r5 (.if2 c a::fs) .beg:=f5.trans e5
        simp only[cr]at f2
        have g:=J 0 (d-1) (.if2 c a::fs) r5 (by omega) o2 (f' _) ⟨fun z=>absurd z (by omega),fun z=>absurd z (by omega),fun z=>absurd z (by omega)⟩ q5 (by omega)
        cases D:exp k (d-1) 0 r5 with
        | error q=>rw[D]at g;rw[bB D];exact e1.trans (e4.trans (e6.trans g))
        | ok b =>
         obtain⟨b,r6⟩:=b
         rw[D]at g
         rw[bK D]
         obtain⟨w1,w2,c4,w3,w4,w5⟩:=g
         have e7:R r6 (.if2 c a::fs) (.en b c4)=R r6 fs (.en (.cond c a b) 0):=wY (f:=.if2 c a) rfl fun j hj=>by
          cases w4 j hj with
          | inl z=>exact .inl z
          | inr z=>exact .inr ⟨z.1,z.2,Nat.zero_le _,Nat.zero_le _,by omega⟩
         refine⟨w1,by simp only[cr];omega,0,f' _,?_,e1.trans (e4.trans (e6.trans (w5.trans e7)))⟩
         intro j hj
         cases w4 j hj with
         | inl z=>exact .inl z
         | inr z=>exact .inr ⟨z.1,Nat.zero_le _⟩
       ·rw[bB (oY aa)]
        exact e1.trans (e4.trans (f5.trans e5))
     ·rw[bB (oY aa)]
      exact e1.trans (G.trans e3)
  ·rw[o6 (t:=(x,p)::r) hx]
   exact(J 1 d fs ((x,p)::r) (by omega) O (by omega) ⟨fun _ _=>hx,fun z=>absurd z (by omega),fun z=>absurd z (by omega)⟩ S (by omega)).Vp (.inl rfl)
 ·by_cases hx:x=wd "not"
  ·subst hx
   have ee:exp (k+1) d 3 ((wd "not",p)::r)=(then_ (opens d) fun e=>then_ (exp k e 3) fun a=>give (.un .not a)) ((wd "not",p)::r):=by rw[Vbdeaa.exp.eq_2];rfl
   rw[ee]
   refine yS J rfl (.inl ⟨rfl,rfl⟩) (by decide) ?_ O ht S (by omega) (by omega)
   show du (text "not") fs=_
   unfold du
   rw[js (fun z=>absurd z.1 (by decide)),j4 ⟨rfl,ht⟩]
  ·rw[mj (t:=(x,p)::r) hx]
   exact(J 4 d fs ((x,p)::r) (by omega) O (by omega) ⟨fun _=>hc.1 (by omega),fun _ _=>hx,fun z=>absurd z (by omega)⟩ S (by omega)).Vp (.inr (.inl rfl))
 ·rw[o7]
  have g:=J 5 d fs ((x,p)::r) (by omega) O (by omega) ⟨fun _=>hc.1 (by omega),fun _=>hc.2.1 (by omega),fun z=>absurd z (by omega)⟩ S (by omega)
  cases D:exp k d 5 ((x,p)::r)with
  | error q=>rw[D]at g;rw[bB D];exact g
  | ok a =>
   obtain⟨a,U⟩:=a
   rw[D]at g
   rw[bK D]
   obtain⟨g1,g2,c2,g3,g4,G⟩:=g
   have ja:PP 4 (peek U)=(joiner 4 (peek U)).map .bin:=rfl
   cases hj:joiner 4 (peek U)with
   | none =>
    refine⟨g1,g2,c2,by omega,?_,G⟩
    intro j h
    cases g4 j h with
    | inl z =>
     have:=(lX h).2.2.2.1 4 (by decide)
     rw[ja,hj]at this
     by_cases e:j.kind=4
     ·rw[j4 e]at this;cases this
     ·exact .inl (by omega)
    | inr z=>exact .inr z
   | some o =>
    rw[hj]at ja
    obtain⟨j1,j2⟩:=Ez (by decide) ja
    obtain⟨y,p2,F,rfl⟩:=g1.cons
    have j3:=lX j1
    simp only[cr]at g2
    have e1:R ((y,p2)::F) fs (.en a c2)=R F (.jn (.bin o) a::fs) .beg:=CJ j3.1 j1 (by omega) (by rw[j2];show 5≤c2;omega) (by show nest fs+(if(Jn.bin o).kind=8 then 1 else 0)≤32;rw[j2,js (by omega)];omega)
    have ks:e_ (Jn.bin o).kind=5:=by rw[j2];rfl
    have tp:top (.jn (.bin o) a::fs)=5:=ks
    have g:=J 5 d (.jn (.bin o) a::fs) F (by omega) (by show d+((if(Jn.bin o).kind=8 then 1 else 0)+nest fs)=32;rw[j2,js (by omega)];omega) (by omega) ⟨fun _ z=>by omega,fun _ z=>by omega,fun z=>by omega⟩ (g1.tail j3.1 j3.2.1) (by omega)
    show MJ _ 4 fs _ _ (then_ (exp k d 5) (fun b=>give (.bin o a b)) F)
    cases D:exp k d 5 F with
    | error q=>rw[D]at g;rw[bB D];exact G.trans (e1.trans g)
    | ok b =>
     obtain⟨b,r4⟩:=b
     rw[D]at g
     rw[bK D]
     obtain⟨f1,f2,c3,f3,f4,f5⟩:=g
     have e2:=uv (a:=a) (b:=b) (fs:=fs) (j:=.bin o) (c:=c3) (r:=r4) (by omega) (by omega) (by rw[ks];exact f4) (by omega)
     refine⟨f1,by simp only[cr];omega,4,f' _,?_,G.trans (e1.trans (f5.trans (e2.trans (by rw[j2];rfl))))⟩
     intro j h
     cases f4 j h with
     | inl z =>
      by_cases e:j.kind=4
      ·exact .inr ⟨e,f' _⟩
      ·exact .inl (by omega)
     | inr z=>exact .inr ⟨z.1,f' _⟩
 ·by_cases hx:x=sg "-"
  ·subst hx
   have ee:exp (k+1) d 7 ((sg "-",p)::r)=(then_ (opens d) fun e=>then_ (exp k e 7) fun a=>give (.un .neg a)) ((sg "-",p)::r):=by rw[Vbdeaa.exp.eq_2];rfl
   rw[ee]
   exact yS J rfl (.inr ⟨rfl,rfl⟩) (by decide) Iw O ht S (by omega) (by omega)
  ·rw[mq (t:=(x,p)::r) hx]
   exact(J 8 d fs ((x,p)::r) (by omega) O (by omega) ⟨fun _=>hc.1 (by omega),fun _=>hc.2.1 (by omega),fun _=>hx⟩ S (by omega)).Vp (.inr (.inr rfl))
 ·rw[mz]
  have g:=hA d fs _ O ht hc S (by omega)
  cases D:atom k d ((x,p)::r)with
  | error q=>rw[D]at g;rw[bB D];exact g
  | ok a =>
   obtain⟨a,U⟩:=a
   rw[D]at g
   rw[bK D]
   obtain⟨g1,g2,G⟩:=g
   by_cases hb:peek U=sg "^"
   ·rw[jO hb]
    obtain⟨y,p2,F,rfl⟩:=g1.cons
    have hy:y=sg "^":=hb
    subst hy
    have j1:bU (sg "^")=some (.bin .pow):=by decide
    have j2:(Jn.bin .pow).kind=8:=rfl
    simp only[cr]at g2
    simp only[if_true]
    by_cases hd:d=0
    ·rw[bB (gq hd)]
     exact G.trans (Hs (by decide) j1 (by omega) (by show 32<nest fs+1;omega))
    ·rw[bK (iM hd)]
     have e1:R ((sg "^",p2)::F) fs (.en a 9)=R F (.jn (.bin .pow) a::fs) .beg:=CJ (by decide) j1 (by omega) (f' _) (by show nest fs+1≤32;omega)
     have tp:top (.jn (.bin .pow) a::fs)=7:=rfl
     have g:=J 7 (d-1) (.jn (.bin .pow) a::fs) F (by omega) (by show d-1+(1+nest fs)=32;omega) (by omega) ⟨fun _ z=>by omega,fun _ z=>by omega,fun z=>by omega⟩ (g1.tail (by decide) (by decide)) (by omega)
     show MJ _ 8 fs _ _ (then_ (exp k (d-1) 7) (fun b=>give (.bin .pow a b)) F)
     cases D:exp k (d-1) 7 F with
     | error q=>rw[D]at g;rw[bB D];exact G.trans (e1.trans g)
     | ok b =>
      obtain⟨b,r4⟩:=b
      rw[D]at g
      rw[bK D]
      obtain⟨f1,f2,c3,f3,f4,f5⟩:=g
      have e2:=uv (a:=a) (b:=b) (fs:=fs) (j:=.bin .pow) (c:=c3) (r:=r4) (by omega) f3 f4 (.inr (by decide))
      refine⟨f1,by simp only[cr];omega,8,f' _,?_,G.trans (e1.trans (f5.trans e2))⟩
      intro j h
      cases f4 j h with
      | inl z=>exact .inl (by omega)
      | inr z=>omega
   ·rw[gw hb]
    refine⟨g1,g2,9,by omega,?_,G⟩
    intro j h
    have:=lX h
    have h8:j.kind≠8:=fun z=>hb (this.2.2.2.2.mpr z)
    exact .inl (by omega)
 ·rw[my Z]
  obtain⟨m1,m2,m3,m4⟩:=Es Z
  have g:=J (L+1) d fs ((x,p)::r) (by omega) O (by omega) ⟨fun _=>hc.1 (by omega),fun z=>by
   by_cases e:L=2
   ·omega
   ·exact hc.2.1 (by unfold M9 at Z;omega),fun z=>absurd z (by omega)⟩ S (by omega)
  cases D:exp k d (L+1) ((x,p)::r)with
  | error q=>rw[D]at g;rw[bB D];exact g
  | ok a =>
   obtain⟨a,U⟩:=a
   rw[D]at g
   rw[bK D]
   obtain⟨g1,g2,c2,g3,g4,G⟩:=g
   have g':=hJ L d fs U a c2 Z O ht g1 (by omega) (by omega) g4
   revert g'
   cases joins k d L a U with
   | error q=>intro g';exact G.trans g'
   | ok z =>
    obtain⟨z,F⟩:=z
    intro g'
    obtain⟨w1,w2,c3,w3,w4,w5⟩:=g'
    exact⟨w1,by omega,c3,w3,w4,G.trans w5⟩
theorem E_:∀k,ES k∧JS k∧AS k∧GS k
 | 0=>⟨fun L d fs t h1 h2 j z D F=>by omega,fun L d fs t a c h1 h2 j z D=>by omega,fun d fs t h1 h2 j z D=>by omega,fun d fs h l t h1 h2 j=>by omega⟩
 | k+1=>by
  obtain⟨a,b,c,d⟩:=E_ k
  exact⟨Qj a b c,Px a b,Qt a d,Qc a d⟩
theorem J7{t:Toks}(J:Q t):run (t.map Prod.fst) [] .beg=match exp (Vbdeaa.enough t) 32 0 t with
  | .error _=>none
  | .ok (e,r)=>if peek r=.eof then some e else none:=by
 have g:=(E_ (Vbdeaa.enough t)).1 0 32 [] t (by omega) rfl (f' _) ⟨fun z=>absurd z (by omega),fun z=>absurd z (by omega),fun z=>absurd z (by omega)⟩ J (by unfold Vbdeaa.enough;omega)
 revert g
 cases exp (Vbdeaa.enough t) 32 0 t with
 | error q=>intro g;exact g
 | ok z =>
  obtain⟨e,r⟩:=z
  intro g
  obtain⟨g1,g2,c,g3,F,D⟩:=g
  refine Eq.trans D ?_
  obtain⟨x,p,L,rfl⟩:=g1.cons
  by_cases hx:x=.eof
  ·subst hx
   rw[q_]
   show some e=if Tok.eof=Tok.eof then some e else none
   rw[j4 rfl]
  ·show _=if x=Tok.eof then some e else none
   rw[js hx]
   refine jz hx ?_
   show goOn x [] e c=none
   unfold goOn
   cases G:bU x with
   | none =>
    simp only
    show around x [] e=none
    unfold around
    split
    ·rfl
    ·split
     ·rfl
     ·split
      ·rfl
      ·split<;>rfl
   | some j =>
    simp only
    cases F j G with
    | inl z=>exact absurd z (Nat.not_lt_zero _)
    | inr z =>
     show(if c<ik j.kind then none else push [] (.jn j e))=none
     rw[four z.1,j4 (by omega)]
end PM
end
section
namespace SB
open PySem PySem.Spec PyProof.Rows L2 XL
open Vbdeaa (Text Exp Exps Un Bin Ins)
open PM (Fr Jn Hd Md nest)
variable {P:Program} {w:World} {K:PySem.W.Frag} {mg:Str→Option Value} {base:Heap}
noncomputable def bI:Fr→Int
 | .grp=>9
 | .un _=>2
 | .lst (.best _) _=>7
 | .lst (.call _) _=>8
 | .if0=>6
 | .if1 _=>6
 | .if2 _ _=>6
 | .jn (.bin _) _=>3
 | .jn .and _=>4
 | .jn .or _=>5
noncomputable def jB:Fr→V
 | .un o=>.int (wu o)
 | .lst (.best g) _=>.int (if g=true then 1 else 0)
 | .lst (.call n) _=>.str (bD n)
 | .jn (.bin o) _=>.int (qX o)
 | _=>.int 0
noncomputable def bj:Fr→List Exp
 | .lst _ l=>l
 | .if1 c=>[c]
 | .if2 c a=>[c,a]
 | .jn _ a=>[a]
 | _=>[]
noncomputable def Sw(f:Fr)(lp:Addr):List (Str×V):=[("form",.int (bI f)),("detail",jB f),("parts",.ref lp),("place",.int (f.place:Nat)),("around",.int (f.around:Nat)),("bracket",.bl f.brk)]
noncomputable def rQ(C FC:Addr)(G H:Hp)(f:Fr)(fa lp:Addr):Prop:=∃dx as,H fa=some (.ins FC dx (Sw f lp))∧H lp=some (.lst (as.map V.ref))∧Paired (cF C G) (bj f) as
inductive g_ (C FC:Addr) (G H:Hp):List Fr→List Addr→List Addr→Prop
 | nil:g_ C FC G H [] [] []
 | cons {f:Fr} {r:List Fr} {fa lp:Addr} {fas ads:List Addr}:rQ C FC G H f fa lp→g_ C FC G H r fas ads→g_ C FC G H (f::r) (fa::fas) (fa::lp::ads)
theorem rQ.mono{C FC:Addr}{G j H H':Hp}{f:Fr}{fa lp:Addr}(s:aA G j)(h1:H' fa=H fa)(h2:H' lp=H lp)(h:rQ C FC G H f fa lp):rQ C FC j H' f fa lp:=by
 obtain⟨dx,as,a,b,c⟩:=h
 exact⟨dx,as,by rw[h1];exact a,by rw[h2];exact b,fM s c⟩
theorem g_.mono{C FC:Addr}{G j H H':Hp}(s:aA G j):∀{fs:List Fr}{fas ads:List Addr},(∀b∈ads,H' b=H b)→g_ C FC G H fs fas ads→g_ C FC j H' fs fas ads
 | _,_,_,_,.nil=>.nil
 | _,_,_,k,.cons h t=>.cons (h.mono s (k _ (by simp)) (k _ (by simp))) (g_.mono s (fun b z=>k b (by simp[z])) t)
theorem g_.there{C FC:Addr}{G H:Hp}:∀{fs:List Fr}{fas ads:List Addr},g_ C FC G H fs fas ads→∀b∈ads,∃o,H b=some o
 | _,_,_,.nil,b,j=>by cases j
 | _,_,_,.cons ⟨dx,as,h1,h2,_⟩ t,b,j=>by
  rcases hU.mp j with rfl | j
  ·exact⟨_,h1⟩
  ·rcases hU.mp j with rfl | j
   ·exact⟨_,h2⟩
   ·exact t.there b j
theorem g_.len{C FC:Addr}{G H:Hp}:∀{fs:List Fr}{fas ads:List Addr},g_ C FC G H fs fas ads→fas.length=fs.length
 | _,_,_,.nil=>rfl
 | _,_,_,.cons _ t=>congrArg (·+1) t.len
noncomputable def ig(lt:Addr)(i:Nat)(lf:Addr)(n:Nat)(ev:V)(k:Int):List (Str×V):=[("tokens",.ref lt),("at",.int (i:Nat)),("frames",.ref lf),("nesting",.int (n:Nat)),("ended",ev),("kind",.int k)]
noncomputable def MN(C:Addr)(G:Hp):Md→V→Int→Prop
 | .beg,ev,_=>ev=.non
 | .en e k,ev,k0=>(∃a,ev=.ref a∧cF C G e a)∧k0=(k:Nat)
 | _,_,_=>False
theorem MN.same{C:Addr}{G j:Hp}(s:aA G j):∀{m:Md}{ev:V}{k:Int},MN C G m ev k→MN C j m ev k
 | .beg,_,_,h=>h
 | .en e k,_,_,⟨⟨a,h1,h2⟩,z⟩=>⟨⟨a,h1,h2.same s⟩,z⟩
structure jA (C FC PC:Addr) (H:Hp) (p:Addr) (M:List Addr) (ts:List TK) (i:Nat) (fs:List Fr) (md:Md) (dx lt lf:Addr) (ev:V) (k0:Int) (tas fas ads:List Addr):Prop where
 mem:M=p::lf::ads
 nd:M.Nodup
 obj:H p=some (.ins PC dx (ig lt i lf (nest fs) ev k0))
 tl:off M H lt=some (.lst (tas.map V.ref))
 tks:Paired (cO (off M H)) ts tas
 fl:H lf=some (.lst (fas.reverse.map V.ref))
 frs:g_ C FC (off M H) H fs fas ads
 md:MN C (off M H) md ev k0
noncomputable def jL(C FC PC:Addr)(H:Hp)(p:Addr)(M:List Addr)(ts:List TK)(i:Nat)(fs:List Fr)(md:Md):Prop:=∃dx lt lf ev k0 tas fas ads,jA C FC PC H p M ts i fs md dx lt lf ev k0 tas fas ads
section
variable {C FC PC:Addr} {H H':Hp} {p:Addr} {M:List Addr} {ts:List TK} {i:Nat} {fs:List Fr} {md:Md} {dx lt lf:Addr} {ev:V} {k0:Int} {tas fas ads:List Addr}
theorem jA.there(h:jA C FC PC H p M ts i fs md dx lt lf ev k0 tas fas ads):∀b∈M,∃o,H b=some o:=by
 intro b j
 rw[h.mem]at j
 rcases hU.mp j with rfl | j
 ·exact⟨_,h.obj⟩
 ·rcases hU.mp j with rfl | j
  ·exact⟨_,h.fl⟩
  ·exact h.frs.there b j
theorem jA.keep(h:jA C FC PC H p M ts i fs md dx lt lf ev k0 tas fas ads)(k:rP M H H'):jA C FC PC H' p M ts i fs md dx lt lf ev k0 tas fas ads:=by
 have D:p∈M:=by rw[h.mem];simp
 have j:lf∈M:=by rw[h.mem];simp
 exact⟨h.mem,h.nd,by rw[k.ins _ D];exact h.obj,k.out _ _ h.tl,iG h.tks k.out,by rw[k.ins _ j];exact h.fl,h.frs.mono k.out (fun b z=>k.ins b (by rw[h.mem];simp[z])),h.md.same k.out⟩
theorem jA.pM(h:jA C FC PC H p M ts i fs md dx lt lf ev k0 tas fas ads):p∈M∧lf∈M∧p≠lf∧(∀b∈ads,b≠p∧b≠lf):=by
 have:=h.nd
 rw[h.mem,List.nodup_cons,List.nodup_cons]at this
 obtain⟨a,b,_⟩:=this
 refine⟨by rw[h.mem];simp,by rw[h.mem];simp,fun z=>a (by rw[z];simp),fun x hx=>⟨fun z=>a (by rw[←z];simp[hx]),fun z=>b (by rw[←z];exact hx)⟩⟩
theorem jA.set(h:jA C FC PC H p M ts i fs md dx lt lf ev k0 tas fas ads){i':Nat}{md':Md}{ev':V}{k':Int}(z:MN C (off M H) md' ev' k'):jA C FC PC (L2.upd H p (.ins PC dx (ig lt i' lf (nest fs) ev' k'))) p M ts i' fs md' dx lt lf ev' k' tas fas ads∧off M (L2.upd H p (.ins PC dx (ig lt i' lf (nest fs) ev' k')))=off M H:=by
 obtain⟨J,L,F,D⟩:=h.pM
 have j:off M (L2.upd H p (.ins PC dx (ig lt i' lf (nest fs) ev' k')))=off M H:=sW J
 exact⟨⟨h.mem,h.nd,ak,by rw[j];exact h.tl,by rw[j];exact h.tks,by rw[az (Ne.symm F)];exact h.fl,by rw[j];exact h.frs.mono (aA.refl _) (fun b G=>az (D b G).1),by rw[j];exact z⟩,j⟩
end
structure gf (K:PySem.W.Frag) (FC:Addr):Prop where
 cl:CW K FC
 nF:aO K FC "form"
 nD:aO K FC "detail"
 nP:aO K FC "parts"
 nL:aO K FC "place"
 nA:aO K FC "around"
 nB:aO K FC "bracket"
structure iZ (K:PySem.W.Frag) (PC:Addr):Prop where
 cl:CW K PC
 nT:aO K PC "tokens"
 nA:aO K PC "at"
 nF:aO K PC "frames"
 nN:aO K PC "nesting"
 nE:aO K PC "ended"
 nK:aO K PC "kind"
structure CG (K:PySem.W.Frag) (mg:Str→Option Value):Prop where
 ST:GC K mg "STRONGEST" (.i 9)
 DE:GC K mg "DEEPEST" (.i 32)
 GR:GC K mg "GROUP" (.i 9)
 NE:GC K mg "NEGATIVE" (.i 0)
 NT:GC K mg "NEGATION" (.i 1)
 len:mg "len"=none
noncomputable abbrev wR(i:Nat):Stmt:=inClass (top 73) i
noncomputable abbrev aY(i:Nat):Stmt:=inClass (top 74) i
noncomputable def uC:Fr→Prop
 | .if1 _=>False
 | .if2 _ _=>False
 | .lst _ l=>l=[]
 | _=>True
theorem lW{f:Int}{v:V}(h:f=7∨f=8∨f=9):lE f v ((9:Nat):Int):=.else_ (by omega) (by omega) (by omega) (by omega) (by omega)
theorem Pu(f:Fr):∃k:Nat,lE (bI f) (jB f) (k:Nat)∧(uC f→Qw ou 0 (k:Nat) ((bj f).length:Nat) (f.place:Nat)∧Qw pK 1 (k:Nat) ((bj f).length:Nat) (f.around:Nat))∧(decide ((k:Int)=9))=f.brk:=by
 cases f with
 | grp=>exact⟨9,.else_ (by decide) (by decide) (by decide) (by decide) (by decide),fun _=>⟨.inl ⟨rfl,rfl⟩,.inl ⟨rfl,rfl⟩⟩,rfl⟩
 | un o=>cases o with
  | neg=>exact⟨7,.one rfl,fun _=>⟨.inr ⟨by decide,_,rfl,rfl⟩,.inr ⟨by decide,_,rfl,rfl⟩⟩,rfl⟩
  | not=>exact⟨3,.one rfl,fun _=>⟨.inr ⟨by decide,_,rfl,rfl⟩,.inr ⟨by decide,_,rfl,rfl⟩⟩,rfl⟩
  | _=>exact⟨9,.one rfl,fun _=>⟨.inl ⟨rfl,rfl⟩,.inl ⟨rfl,rfl⟩⟩,rfl⟩
 | lst h l=>cases h with
  | best g=>exact⟨9,lW (.inl rfl),fun _=>⟨.inl ⟨rfl,rfl⟩,.inl ⟨rfl,rfl⟩⟩,rfl⟩
  | call n=>exact⟨9,lW (.inr (.inl rfl)),fun _=>⟨.inl ⟨rfl,rfl⟩,.inl ⟨rfl,rfl⟩⟩,rfl⟩
 | if0=>exact⟨0,.if_,fun _=>⟨.inr ⟨by decide,_,rfl,rfl⟩,.inr ⟨by decide,_,rfl,rfl⟩⟩,rfl⟩
 | if1 c=>exact⟨0,.if_,fun z=>z.elim,rfl⟩
 | if2 c a=>exact⟨0,.if_,fun z=>z.elim,rfl⟩
 | jn j a=>cases j with
  | and=>exact⟨2,.and_,fun _=>⟨.inr ⟨by decide,_,rfl,rfl⟩,.inr ⟨by decide,_,rfl,rfl⟩⟩,rfl⟩
  | or=>exact⟨1,.or_,fun _=>⟨.inr ⟨by decide,_,rfl,rfl⟩,.inr ⟨by decide,_,rfl,rfl⟩⟩,rfl⟩
  | bin o=>cases o with
   | add=>exact⟨5,.two rfl,fun _=>⟨.inr ⟨by decide,_,rfl,rfl⟩,.inr ⟨by decide,_,rfl,rfl⟩⟩,rfl⟩
   | sub=>exact⟨5,.two rfl,fun _=>⟨.inr ⟨by decide,_,rfl,rfl⟩,.inr ⟨by decide,_,rfl,rfl⟩⟩,rfl⟩
   | mul=>exact⟨6,.two rfl,fun _=>⟨.inr ⟨by decide,_,rfl,rfl⟩,.inr ⟨by decide,_,rfl,rfl⟩⟩,rfl⟩
   | div=>exact⟨6,.two rfl,fun _=>⟨.inr ⟨by decide,_,rfl,rfl⟩,.inr ⟨by decide,_,rfl,rfl⟩⟩,rfl⟩
   | quo=>exact⟨6,.two rfl,fun _=>⟨.inr ⟨by decide,_,rfl,rfl⟩,.inr ⟨by decide,_,rfl,rfl⟩⟩,rfl⟩
   | rem=>exact⟨6,.two rfl,fun _=>⟨.inr ⟨by decide,_,rfl,rfl⟩,.inr ⟨by decide,_,rfl,rfl⟩⟩,rfl⟩
   | pow=>exact⟨8,.two rfl,fun _=>⟨.inr ⟨by decide,_,rfl,rfl⟩,.inr ⟨by decide,_,rfl,rfl⟩⟩,rfl⟩
   | _=>exact⟨4,.two rfl,fun _=>⟨.inr ⟨by decide,_,rfl,rfl⟩,.inr ⟨by decide,_,rfl,rfl⟩⟩,rfl⟩
noncomputable def Ah(FC:Addr):Sp:=fun vs H Q _=>∃(x dx lp:Addr)(f:Fr)(as:List Addr),vs=[.ref x,.int (bI f),jB f,.ref lp]∧H x=some (.ins FC dx [])∧uC f∧H lp=some (.lst (as.map V.ref))∧as.length=(bj f).length ∧
 ∀H',bC x H H'→H' x=some (.ins FC dx (Sw f lp))→Q .non H'
section
theorem JD:aK ["self","form","detail","parts","kind"] ["self","form","detail","parts"] (aD (wR 0)):=⟨rfl,rfl,rfl,by decide +kernel,rfl,by decide +kernel,by decide +kernel⟩
theorem Oz{f FC fK fP fA:Addr}{fd dK dP dA:FuncData}(F:fc K "__init__" "Frame.__init__" (wR 0) f fd)(T:gf K FC)(N:CN K mg)(G:CG K mg)(Z:Fn K mg "kind_of" qD fK dK ["form","detail"])(U:Fn K mg "place_of" pU fP dP ["kind","position"])(Y:Fn K mg "around_of" oO fA dA ["kind","position"]):aF P w K mg base (aW P w) 2 f fd ["self","form","detail","parts"] (Ah FC):=by
 have GK:aF P w K mg base (aW P w) 1 fK dK ["form","detail"] t7:=sV Z N
 have GP:aF P w K mg base (aW P w) 1 fP dP ["kind","position"] (yE ou 0):=yU U N
 have GA:aF P w K mg base (aW P w) 1 fA dA ["kind","position"] (yE pK 1):=Gx Y N
 refine dZ F JD (fun vs H Q E h=>?_) (fun cdv A outer s H vs Q E hr h=>?_)
 ·obtain⟨_,_,_,_,_,rfl,_⟩:=h
  rfl
 ·obtain⟨x,dx,lp,fr,as,rfl,hx,L,D,O,k⟩:=h
  refine⟨_,aq (bw (i:=4) JD.nd rfl (Or.inl rfl) (a_ GK hr rfl Z.m Z.F.kp Z.b .nil passes (aj (pv 1) (aj (pv 2) au))))
   (aq (b8 (pv 0) (pv 1) rfl) (aq (b8 (pv 0) (pv 2) rfl) (aq (b8 (pv 0) (pv 3) rfl)
   (aq (b8 (pv 0) (a_ GP hr rfl U.m U.F.kp U.b .nil passes (aj (pv 4) (aj (bW bG (by rfl) G.len (by decide +kernel) (aj (pv 3) au)) au))) rfl)
   (aq (b8 (pv 0) (a_ GA hr rfl Y.m Y.F.kp Y.b .nil passes (aj (pv 4) (aj (bW bG (by rfl) G.len (by decide +kernel) (aj (pv 3) au)) au))) rfl)
   (ao (b8 (pv 0) (sU cz (pv 4) (bu rfl G.ST) (aL _)) rfl))))))),?_⟩
  obtain⟨kd,hk,ht,hb⟩:=Pu fr
  obtain⟨ac,aa⟩:=ht L
  have j:lp≠x:=fun z=>by rw[z,hx]at D;cases D
  refine⟨_,rfl,_,rfl,_,_,_,rfl,hk,?_⟩
  refine⟨_,rfl,_,rfl,x,FC,dx,[],rfl,hx,T.cl,T.nF,(by decide),?_⟩
  refine⟨_,rfl,_,rfl,x,FC,dx,_,rfl,ak,T.cl,T.nD,(by show 1<1000;decide),?_⟩
  refine⟨_,rfl,_,rfl,x,FC,dx,_,rfl,ak,T.cl,T.nP,(by show 2<1000;decide),?_⟩
  have S:∀{H1:Hp},H1 lp=some (.lst (as.map V.ref))→bZ K H1 lp (as.map V.ref):=fun h=>bZ.of h
  have el:(((as.map V.ref).length:Nat):Int)=((bj fr).length:Nat):=by rw[ap,O]
  refine⟨_,rfl,_,rfl,lp,_,rfl,.inl (S (by rw[az j,az j,az j];exact D)),_,_,_,rfl,(by rw[el];exact ac),_,rfl,x,FC,dx,_,rfl,ak,T.cl,T.nL,(by show 3<1000;decide),?_⟩
  refine⟨_,rfl,_,rfl,lp,_,rfl,.inl (S (by rw[az j,az j,az j,az j];exact D)),_,_,_,rfl,(by rw[el];exact aa),_,rfl,x,FC,dx,_,rfl,ak,T.cl,T.nA,(by show 4<1000;decide),?_⟩
  refine⟨_,rfl,rfl,_,rfl,x,FC,dx,_,rfl,ak,T.cl,T.nB,(by show 5<1000;decide),?_⟩
  refine k _ (fun y o q J=>?_) ?_
  ·rw[az J,az J,az J,az J,az J,az J]
   exact q
  ·rw[ak]
   have:decide (V.int (kd:Nat)=V.int 9)=fr.brk:=by rw[←hb,decide_eq_decide];exact⟨fun z=>V.int.inj z,fun z=>by rw[z]⟩
   rw[this]
   rfl
end
theorem Aw(b:Addr)(r:List Addr):((b::r).reverse.map V.ref)=r.reverse.map V.ref++[V.ref b]:=by rw[List.reverse_cons,kb];rfl
theorem Ux{xs:List V}{y:V}:(xs++[y])[(xs++[y]).length-1]?=some y:=by simp
noncomputable def uF:Exp→Nat
 | .un o _=>PM.nM o
 | .bin o _ _=>PM.Ew o
 | .and _ _=>2
 | .or _ _=>1
 | .cond _ _ _=>0
 | _=>9
theorem Sd(G:Hp){e:Exp}{D:V}(h:pJ G e D):lE (gY e) D (uF e:Nat):=by
 cases e with
 | num q=>exact .else_ (by show(0:Int)≠2;decide) (by show(0:Int)≠3;decide) (by show(0:Int)≠4;decide) (by show(0:Int)≠5;decide) (by show(0:Int)≠6;decide)
 | name n=>exact .else_ (by show(1:Int)≠2;decide) (by show(1:Int)≠3;decide) (by show(1:Int)≠4;decide) (by show(1:Int)≠5;decide) (by show(1:Int)≠6;decide)
 | un o a=>have h:D=.int (wu o):=h;subst h;cases o<;>exact .one rfl
 | bin o a b=>have h:D=.int (qX o):=h;subst h;cases o<;>exact .two rfl
 | and a b=>exact .and_
 | or a b=>exact .or_
 | cond c a b=>exact .if_
 | best g l=>exact lW (.inl rfl)
 | use n l=>exact lW (.inr (.inl rfl))
noncomputable def fY:Fr→Prop
 | .if0=>False
 | .if1 _=>False
 | _=>True
theorem ye:∀(l:List Exp)(e:Exp),tH (PM.app l (.cons e .nil))=l++[e]
 | [],e=>rfl
 | a::l,e=>by show a::tH (PM.app l _)=_;rw[ye l e];rfl
theorem uQ{f:Fr}{e:Exp}(z:fY f)(D:f≠.grp)(G:Hp):gY (f.close e).1=bI f∧pJ G (f.close e).1 (jB f)∧kids (f.close e).1=bj f++[e]∧uF (f.close e).1=(f.close e).2:=by
 cases f with
 | grp=>exact absurd rfl D
 | un o=>exact⟨rfl,rfl,rfl,rfl⟩
 | lst h l=>cases h with
  | best g=>exact⟨rfl,rfl,ye l e,rfl⟩
  | call n=>exact⟨rfl,rfl,ye l e,rfl⟩
 | if0=>exact z.elim
 | if1 c=>exact z.elim
 | if2 c a=>exact⟨rfl,rfl,rfl,rfl⟩
 | jn j a=>cases j with
  | bin o=>exact⟨rfl,rfl,rfl,rfl⟩
  | and=>exact⟨rfl,rfl,rfl,rfl⟩
  | or=>exact⟨rfl,rfl,rfl,rfl⟩
theorem La{C:Addr}{M:List Addr}{H1:Hp}{e:Exp}{D:V}{l:Addr}{as:List Addr}{R:Hp→Prop}{E:XK}(S:∀b∈M,∃o,H1 b=some o)(L:pJ (off M H1) e D)(J:off M H1 l=some (.lst (as.map V.ref)))(U:Paired (cF C (off M H1)) (kids e) as)(j:as.length<2000)
  {x dx:Addr} (hx:H1 x=none) (F:H1 dx=none) (Y:dx≠x) (k:∀H2,rP M H1 H2→cF C (off M H2) e x→R H2):Ae C [.ref x,.int (gY e),D,.ref l] (L2.upd (L2.upd H1 dx (.own x)) x (.ins C dx [])) (fun v H2=>v=.non∧R H2) E:=by
 have s1:=aA.V5 (C:=C) hx F
 have s0:=(aU M H1).trans s1
 refine⟨x,dx,l,e,D,as,rfl,ak,nU (fun b xs q=>s0 b _ q) L,s0 _ _ J,fM s0 U,j,fun H' Z G=>⟨rfl,?_⟩⟩
 have s2:aA H1 H':=fun b o q=>Z b o (s1 b o q) (aH q hx)
 have kp:=rP.of_same S s2
 have xM:x∉M:=fun z=>by
  obtain⟨o,O⟩:=S x z
  rw[hx]at O
  cases O
 exact k H' kp (.mk (gm G xM) (nU (fun b xs q=>kp.out b _ q) L) (kp.out _ _ J) (fM kp.out U))
noncomputable def Ji(C FC:Addr):Sp:=fun vs H Q _=>∃(G:Hp)(fa lp:Addr)(f:Fr),vs=[.ref fa]∧rQ C FC G H f fa lp∧Q (.bl f.ends) H
noncomputable def Ja(PC:Addr):Sp:=fun vs H Q _=>∃(x dx lt:Addr),vs=[.ref x,.ref lt]∧H x=some (.ins PC dx [])∧∀lf,H lf=none→lf≠x→∀H',bC x H H'→H' lf=some (.lst [])→H' x=some (.ins PC dx (ig lt 0 lf 0 .non 9))→Q .non H'
noncomputable def Ad(PC:Addr):Sp:=fun vs H Q _=>∃(p dx lt lf a:Addr)(i n:Nat)(ev:V)(k0:Int)(tas:List Addr),vs=[.ref p]∧H p=some (.ins PC dx (ig lt i lf n ev k0))∧H lt=some (.lst (tas.map V.ref))∧tas[i]?=some a∧Q (.ref a) (L2.upd H p (.ins PC dx (ig lt (i+1) lf n ev k0)))
noncomputable def t8(C FC PC:Addr):Sp:=fun vs H Q _=>∃(p:Addr)(M:List Addr)(ts:List TK)(i:Nat)(fs:List Fr)(md:Md)(e:Exp)(D:V)(l:Addr)(as:List Addr),vs=[.ref p,.int (gY e),D,.ref l]∧jL C FC PC H p M ts i fs md∧pJ (off M H) e D∧off M H l=some (.lst (as.map V.ref))∧Paired (cF C (off M H)) (kids e) as∧as.length<2000 ∧
 ∀H',jL C FC PC H' p M ts i fs (.en e (uF e))→aA (off M H) (off M H')→Q .non H'
section
theorem Ue:aK ["self"] ["self"] (aD (wR 1)):=⟨rfl,rfl,rfl,by decide +kernel,rfl,by decide +kernel,by decide +kernel⟩
theorem R3{f C FC:Addr}{fd:FuncData}(F:fc K "ends_with_part" "Frame.ends_with_part" (wR 1) f fd)(T:gf K FC)(N:CN K mg)(G:CG K mg):aF P w K mg base (aW P w) 1 f fd ["self"] (Ji C FC):=by
 refine dZ F Ue (fun vs H Q E h=>?_) (fun cdv A outer s H vs Q E Y h=>?_)
 ·obtain⟨_,_,_,_,rfl,_⟩:=h
  rfl
 ·obtain⟨Z,fa,lp,fr,rfl,⟨dx,as,h1,h2,O⟩,k⟩:=h
  refine⟨_,aq (aX (aG cz (aJ (pv 0) rfl) (bu rfl N.IF) (aL _)) (ao (aV (sU cz (bW bG (by rfl) G.len (by decide +kernel) (aj (aJ (pv 0) rfl) au)) aB (aL _)))) aP)
   (ao (aV (Ry (aJ (pv 0) rfl)))),?_⟩
  refine⟨_,rfl,fa,FC,dx,_,_,rfl,h1,T.cl,T.nF,rfl,rfl,_,rfl,?_⟩
  have U:(as.map V.ref).length=(bj fr).length:=by rw[ap,←Paired.length O]
  have L:bI fr=6→(decide (V.int (((as.map V.ref).length:Nat):Int)=V.int 2))=fr.ends:=fun h=>by
   rw[U]
   cases fr with
   | if0=>rfl
   | if1 c=>rfl
   | if2 c a=>rfl
   | lst S l=>cases S<;>cases h
   | jn j a=>cases j<;>cases h
   | _=>cases h
  have J:bI fr≠6→(!fr.brk)=fr.ends:=fun h=>by
   cases fr with
   | un o=>cases o<;>rfl
   | if0=>exact absurd rfl h
   | if1 c=>exact absurd rfl h
   | if2 c a=>exact absurd rfl h
   | _=>rfl
  by_cases D:bI fr=6
  ·rw[i9 (by rw[D])]
   refine bh ⟨_,rfl,fa,FC,dx,_,_,rfl,h1,T.cl,T.nP,rfl,lp,_,rfl,.inl (bZ.of h2),rfl,?_⟩
   rw[←L D]at k
   exact k
  ·rw[j5 (fun z=>D (V.int.inj z))]
   refine aR ⟨_,rfl,fa,FC,dx,_,_,rfl,h1,T.cl,T.nB,rfl,_,rfl,?_⟩
   rw[←J D]at k
   exact k
theorem Rn:aK ["self","tokens"] ["self","tokens"] (aD (aY 0)):=⟨rfl,rfl,rfl,by decide +kernel,rfl,by decide +kernel,by decide +kernel⟩
theorem Ot{f PC:Addr}{fd:FuncData}(F:fc K "__init__" "Parser.__init__" (aY 0) f fd)(T:iZ K PC)(G:CG K mg):aF P w K mg base (aW P w) 1 f fd ["self","tokens"] (Ja PC):=by
 refine dZ F Rn (fun vs H Q E h=>?_) (fun cdv A outer s H vs Q E O h=>?_)
 ·obtain⟨_,_,_,rfl,_⟩:=h
  rfl
 ·obtain⟨x,dx,lt,rfl,hx,k⟩:=h
  refine⟨_,aq (b8 (pv 0) (pv 1) rfl) (aq (b8 (pv 0) aB rfl) (aq (b8 (pv 0) (bT au) rfl) (aq (b8 (pv 0) aB rfl) (aq (b8 (pv 0) Bd rfl) (ao (b8 (pv 0) (bu rfl G.ST) rfl)))))),?_⟩
  refine⟨_,rfl,_,rfl,x,PC,dx,[],rfl,hx,T.cl,T.nT,(by decide),?_⟩
  refine⟨_,rfl,x,PC,dx,_,rfl,ak,T.cl,T.nA,(by show 1<1000;decide),?_⟩
  refine⟨(by show 0≤sizeLine;decide),fun lf D=>?_⟩
  have j:lf≠x:=fun z=>by rw[z,ak]at D;cases D
  rw[az j,az j]at D
  refine⟨_,rfl,x,PC,dx,_,rfl,(by rw[az (Ne.symm j)];exact ak),T.cl,T.nF,(by show 2<1000;decide),?_⟩
  refine⟨_,rfl,x,PC,dx,_,rfl,ak,T.cl,T.nN,(by show 3<1000;decide),?_⟩
  refine⟨_,rfl,x,PC,dx,_,rfl,ak,T.cl,T.nE,(by show 4<1000;decide),?_⟩
  refine⟨_,rfl,x,PC,dx,_,rfl,ak,T.cl,T.nK,(by show 5<1000;decide),?_⟩
  refine k lf D j _ (fun y o q J=>?_) (by rw[az j,az j,az j,az j];exact ak) ak
  have L:y≠lf:=fun z=>by rw[z,D]at q;cases q
  rw[az J,az J,az J,az J,az L,az J,az J]
  exact q
theorem Jv:aK ["self","token"] ["self"] (aD (aY 1)):=⟨rfl,rfl,rfl,by decide +kernel,rfl,by decide +kernel,by decide +kernel⟩
theorem DR{f PC:Addr}{fd:FuncData}(F:fc K "take" "Parser.take" (aY 1) f fd)(T:iZ K PC):aF P w K mg base (aW P w) 1 f fd ["self"] (Ad PC):=by
 refine dZ F Jv (fun vs H Q E h=>?_) (fun cdv A outer s H vs Q E G h=>?_)
 ·obtain⟨_,_,_,_,_,_,_,_,_,_,rfl,_⟩:=h
  rfl
 ·obtain⟨p,dx,lt,lf,a,i,n,ev,k0,tas,rfl,j,z,D,k⟩:=h
  refine⟨_,aq (bw (i:=1) Jv.nd rfl (Or.inl rfl) (b7 di (aJ (pv 0) rfl) (aJ (pv 0) rfl) (fun _ _=>rfl))) (aq (cH (pv 0) aB gD) (ao (aV (pv 1)))),?_⟩
  refine⟨_,rfl,p,PC,dx,_,_,rfl,j,T.cl,T.nT,rfl,_,rfl,p,PC,dx,_,_,rfl,j,T.cl,T.nA,rfl,lt,_,_,V.ref a,rfl,rfl,bZ.of z,jx (by rw[iE,D];rfl),?_⟩
  refine⟨_,rfl,p,PC,dx,_,_,rfl,j,T.cl,T.nA,rfl,_,_,rfl,rfl,dx,_,j,(by show 6<1000;decide),?_⟩
  exact⟨_,rfl,k⟩
theorem Rp:aK ["self","form","detail","parts"] ["self","form","detail","parts"] (aD (aY 13)):=⟨rfl,rfl,rfl,by decide +kernel,rfl,by decide +kernel,by decide +kernel⟩
theorem OJ{f C FC PC fN fK:Addr}{fd dN dK:FuncData}(F:fc K "end_with" "Parser.end_with" (aY 13) f fd)(T:iZ K PC)(N:CN K mg)(S:Mk K C fN)(G:aF P w K mg base (aW P w) 1 fN dN ["self","form","detail","parts"] (Ae C))(L:Binds K dN ["self","form","detail","parts"] [])(j:mg "Node"=some (.ref C))(Y:Fn K mg "kind_of" qD fK dK ["form","detail"]):aF P w K mg base (aW P w) 3 f fd ["self","form","detail","parts"] (t8 C FC PC):=by
 have GK:aF P w K mg base (aW P w) 1 fK dK ["form","detail"] t7:=sV Y N
 refine dZ F Rp (fun vs H Q E h=>?_) (fun cdv A outer s H vs Q E hr h=>?_)
 ·obtain⟨_,_,_,_,_,_,_,_,_,_,rfl,_⟩:=h
  rfl
 ·obtain⟨p,M,ts,i,fs,md,e,D,l,as,rfl,⟨dx,lt,lf,ev,k0,tas,fas,ads,Dp⟩,hD,hl,hp,O,k⟩:=h
  have aa:bH 1 _:=hr.mono (by omega)
  refine⟨_,aq (b8 (pv 0) (sS S G hr rfl j L .nil passes (aj (pv 1) (aj (pv 2) (aj (pv 3) au)))) rfl)
   (ao (b8 (pv 0) (a_ GK aa rfl Y.m Y.F.kp Y.b .nil passes (aj (pv 1) (aj (pv 2) au))) rfl)),?_⟩
  refine⟨_,rfl,_,rfl,_,rfl,?_⟩
  intro x ac hx z J
  refine La Dp.there hD hl hp O hx z J fun H1 kp hn=>?_
  have D1:=Dp.keep kp
  refine⟨_,rfl,p,PC,dx,_,rfl,D1.obj,T.cl,T.nE,(by show 6<1000;decide),?_⟩
  obtain⟨D2,ae⟩:=D1.set (i':=i) (md':=.en e k0.toNat) (ev':=.ref x) (k':=k0.toNat) ⟨⟨x,rfl,hn⟩,rfl⟩
  refine⟨_,rfl,_,rfl,_,_,_,rfl,Sd (off M H) hD,_,rfl,p,PC,dx,_,rfl,ak,T.cl,T.nK,(by show 6<1000;decide),?_⟩
  obtain⟨D3,Z⟩:=D1.set (i':=i) (md':=.en e (uF e)) (ev':=.ref x) (k':=(uF e:Nat)) ⟨⟨x,rfl,hn⟩,rfl⟩
  have eu:L2.upd (L2.upd H1 p (.ins PC dx (ig lt i lf (nest fs) (.ref x) k0))) p (.ins PC dx (ig lt i lf (nest fs) (.ref x) (uF e:Nat)))=L2.upd H1 p (.ins PC dx (ig lt i lf (nest fs) (.ref x) (uF e:Nat))):=by
   funext b
   by_cases U:b=p
   ·subst U;rw[ak,ak]
   ·rw[az U,az U,az U]
  have:=k _ ⟨dx,lt,lf,_,_,tas,fas,ads,D3⟩ (by rw[Z];exact kp.out)
  rw[←eu]at this
  exact this
end
theorem L_{f:Fr}(h:f≠.grp):bI f≠9:=by
 cases f with
 | grp=>exact absurd rfl h
 | lst z l=>cases z<;>simp[bI]
 | jn j a=>cases j<;>simp[bI]
 | _=>simp[bI]
noncomputable def jd(C FC PC Ce:Addr):Sp:=fun vs H Q E=>∃(p lp:Addr)(M:List Addr)(ts:List TK)(i:Nat)(fs:List Fr)(md:Md)(f:Fr)(as:List Addr)(H0:Hp),vs=[.ref p,.int (bI f),jB f,.ref lp]∧jL C FC PC H0 p M ts i fs md∧H0 lp=none∧H=L2.upd H0 lp (.lst (as.map V.ref))∧Paired (cF C (off M H0)) (bj f) as∧uC f∧fs.length≤3000 ∧
 (nest fs+f.around≤32→∀j H',jL C FC PC H' p j ts i (f::fs) .beg→aA (off M H0) (off j H')→Q .non H')∧(32<nest fs+f.around→bz Ce (-6) (off M H0) E)
noncomputable def t_(C FC PC:Addr):Sp:=fun vs H Q _=>∃(p:Addr)(M:List Addr)(ts:List TK)(i:Nat)(f:Fr)(r:List Fr)(e:Exp)(k:Nat),vs=[.ref p]∧jL C FC PC H p M ts i (f::r) (.en e k)∧fY f∧(bj f).length+1<2000 ∧
 ∀j H',jL C FC PC H' p j ts i r (.en (f.close e).1 (f.close e).2)→aA (off M H) (off j H')→Q .non H'
section
theorem Jw:aK ["self","form","detail","parts","frame"] ["self","form","detail","parts"] (aD (aY 3)):=⟨rfl,rfl,rfl,by decide +kernel,rfl,by decide +kernel,by decide +kernel⟩
theorem Oq{f C FC PC Ce fI fF:Addr}{fd dI dF:FuncData}(F:fc K "push" "Parser.push" (aY 3) f fd)(T:iZ K PC)(TF:gf K FC)(G:CG K mg)(X:XC P w K mg base "NoExpression" Ce fI dI (-6))(aT:Mk K FC fF)(FG:aF P w K mg base (aW P w) 2 fF dF ["self","form","detail","parts"] (Ah FC))(FB:Binds K dF ["self","form","detail","parts"] [])(a3:mg "Frame"=some (.ref FC)):aF P w K mg base (aW P w) 4 f fd ["self","form","detail","parts"] (jd C FC PC Ce):=by
 refine dZ F Jw (fun vs H Q E h=>?_) (fun cdv A outer s H vs Q E hr h=>?_)
 ·obtain⟨_,_,_,_,_,_,_,_,_,_,rfl,_⟩:=h
  rfl
 ·obtain⟨p,lp,M,ts,i,fs,md,fr,as,H0,rfl,⟨dx,lt,lf,ev,k0,tas,fas,ads,D⟩,aa,rfl,Y,ai,aw,k,kr⟩:=h
  have aS:bH 3 _:=hr.mono (by omega)
  refine⟨_,aq (bw (i:=4) Jw.nd rfl (Or.inl rfl) (sS aT FG aS rfl a3 FB .nil passes (aj (pv 1) (aj (pv 2) (aj (pv 3) au)))))
   (aq (cH (pv 0) (aJ (pv 4) rfl) gD)
   (aq (aX (aG qG (aJ (pv 0) rfl) (bu rfl G.DE) (aL _)) (ao (bO X.made X.cls X.ok hr rfl X.m X.b rfl bF)) aP)
   (aq (aN (gC PySem.F.plainAttrs_list PySem.F.slot_list_append PySem.F.type_list_append gr (aJ (pv 0) rfl) (aj (pv 4) au)))
   (ao (b8 (pv 0) Bd rfl))))),?_⟩
  refine⟨_,rfl,_,rfl,_,rfl,?_⟩
  intro x L hx S a4
  have O:x≠lp:=fun z=>by rw[z,ak]at hx;cases hx
  have ac:L≠lp:=fun z=>by rw[z,ak]at S;cases S
  have ae:H0 x=none:=by rw[az O]at hx;exact hx
  have av:H0 L=none:=by rw[az ac]at S;exact S
  refine⟨x,L,lp,fr,as,rfl,ak,ai,?_,(Paired.length Y).symm,fun H2 sx al=>⟨rfl,?_⟩⟩
  ·rw[az (Ne.symm O),az (Ne.symm ac),ak]
  have ag:aA H0 H2:=fun b o q=>by
   have b1:=aH q ae
   exact sx b o (by rw[az b1,az (aH q av),az (aH q aa)];exact q) b1
  have ay:H2 lp=some (.lst (as.map V.ref)):=sx lp _ (by rw[az (Ne.symm O),az (Ne.symm ac),ak]) (Ne.symm O)
  have kp:=rP.of_same D.there ag
  have D2:=D.keep kp
  obtain⟨m1,m2,n1,n2⟩:=D2.pM
  have xM:x∉M:=fun z=>by obtain⟨o,ho⟩:=D.there x z;rw[ae]at ho;cases ho
  have lM:lp∉M:=fun z=>by obtain⟨o,ho⟩:=D.there lp z;rw[aa]at ho;cases ho
  have aE:p≠x:=fun z=>xM (by rw[←z];exact m1)
  have aC:lf≠x:=fun z=>xM (by rw[←z];exact m2)
  have ax:p≠lp:=fun z=>lM (by rw[←z];exact m1)
  have ah:lf≠lp:=fun z=>lM (by rw[←z];exact m2)
  refine⟨_,rfl,p,PC,dx,_,_,rfl,D2.obj,T.cl,T.nN,rfl,_,rfl,x,FC,L,_,_,rfl,al,TF.cl,TF.nA,rfl,_,_,rfl,rfl,dx,_,D2.obj,(by show 6<1000;decide),?_⟩
  rw[show((nest fs:Nat):Int)+(fr.around:Nat)=((nest fs+fr.around:Nat):Int) by omega]
  generalize ar:L2.upd H2 p _=H3
  have Z:H3 p=some (.ins PC dx (ig lt i lf (nest fs+fr.around) ev k0)):=by rw[←ar];exact ak
  have h3:∀b,b≠p→H3 b=H2 b:=fun b j=>by rw[←ar];exact az j
  refine⟨_,rfl,p,PC,dx,_,_,rfl,Z,T.cl,T.nN,rfl,_,_,rfl,rfl,_,rfl,?_⟩
  by_cases hn:nest fs+fr.around≤32
  ·rw[j5 (by omega)]
   have U:H3 lf=some (.lst (fas.reverse.map V.ref)):=by rw[h3 lf (Ne.symm n1)];exact D2.fl
   refine aR ⟨_,rfl,p,PC,dx,_,_,rfl,Z,T.cl,T.nF,rfl,.inl ⟨rfl,_,bZ.of U⟩,_,rfl,lf,_,_,rfl,rfl,U,?_,?_⟩
   ·rw[ap,List.length_reverse,D.frs.len]
    exact iO aw (by decide)
   have a0:(L2.upd H3 lf (.lst (fas.reverse.map V.ref++[V.ref x]))) p=some (.ins PC dx (ig lt i lf (nest fs+fr.around) ev k0)):=by rw[az n1];exact Z
   refine⟨_,rfl,p,PC,dx,_,rfl,a0,T.cl,T.nE,(by show 6<1000;decide),?_⟩
   generalize af:L2.upd (L2.upd H3 lf (.lst (fas.reverse.map V.ref++[V.ref x]))) p _=H5
   have h5:∀b,b≠p→b≠lf→H5 b=H2 b:=fun b j aI=>by rw[←af,az j,az aI,h3 b j]
   have out:aA (off M H0) (off (p::lf::x::lp::ads) H5):=fun b o q=>by
    have j:=oW q
    have q0:=aU _ _ _ _ q
    have bp:b≠p:=fun z=>j (by rw[z];exact m1)
    have bf:b≠lf:=fun z=>j (by rw[z];exact m2)
    refine gm (by rw[h5 b bp bf];exact ag _ _ q0) ?_
    rw[D.mem]at j
    simp only[hU,not_or]at j ⊢
    exact⟨bp,bf,aH q0 ae,aH q0 aa,j.2.2⟩
   refine k hn (p::lf::x::lp::ads) H5 ⟨dx,lt,lf,.non,k0,tas,x::fas,x::lp::ads,rfl,?_,?_,out _ _ D.tl,iG D.tks out,?_,.cons ⟨L,as,?_,?_,fM out Y⟩ (D.frs.mono out fun b j=>?_),rfl⟩ out
   ·have J:=D.nd
    rw[D.mem]at J xM lM
    simp only[List.nodup_cons,hU,not_or]at J xM lM ⊢
    exact⟨⟨J.1.1,aE,ax,J.1.2⟩,⟨aC,ah,J.2.1⟩,⟨O,xM.2.2⟩,lM.2.2,J.2.2⟩
   ·rw[←af,ak,show nest (fr::fs)=nest fs+fr.around by show fr.around+nest fs=_;omega]
    rfl
   ·rw[←af,az (Ne.symm n1),ak,Aw]
   ·rw[h5 x (Ne.symm aE) (Ne.symm aC)];exact al
   ·rw[h5 lp (Ne.symm ax) (Ne.symm ah)];exact ay
   ·rw[h5 b (n2 b j).1 (n2 b j).2,kp.ins b (by rw[D.mem];simp[j])]
  ·rw[i9 (by omega)]
   refine bh ((kr (by omega)).mono fun b o q=>?_).go
   have j:=oW q
   rw[h3 b (fun z=>j (by rw[z];exact m1))]
   exact ag _ _ (aU _ _ _ _ q)
theorem JG:aK ["self","frame"] ["self"] (aD (aY 12)):=⟨rfl,rfl,rfl,by decide +kernel,rfl,by decide +kernel,by decide +kernel⟩
theorem O2{f C FC PC fW:Addr}{fd dW:FuncData}(F:fc K "end_frame" "Parser.end_frame" (aY 12) f fd)(T:iZ K PC)(U:gf K FC)(G:CG K mg)(FW:Fm K PC "end_with" "Parser.end_with" (aY 13) fW dW ["self","form","detail","parts"])(GW:aF P w K mg base (aW P w) 3 fW dW ["self","form","detail","parts"] (t8 C FC PC)):aF P w K mg base (aW P w) 4 f fd ["self"] (t_ C FC PC):=by
 refine dZ F JG (fun vs H Q E h=>?_) (fun cdv A outer s H vs Q E hr h=>?_)
 ·obtain⟨_,_,_,_,_,_,_,_,rfl,_⟩:=h
  rfl
 ·obtain⟨p,M,ts,i,fr,r,e,kd,rfl,⟨dx,lt,lf,ev,k0,tas,al,ah,D⟩,aI,a7,k⟩:=h
  refine⟨_,aq (bw (i:=1) JG.nd rfl (Or.inl rfl) (Be PySem.F.plainAttrs_list PySem.F.slot_list_pop PySem.F.type_list_pop R_ (aJ (pv 0) rfl)))
   (aq (cH (pv 0) (aJ (pv 1) rfl) Su)
   (ao (aX (aG cz (aJ (pv 1) rfl) (bu rfl G.GR) (aL _)) (ao (b8 (pv 0) (bu rfl G.ST) rfl))
    (ao (aN (bc (pv 0) T.cl FW.me GW hr FW.b .nil passes (aj (aJ (pv 1) rfl) (aj (aJ (pv 1) rfl) (aj (dw xj (aJ (pv 1) rfl) (bT (aj (aJ (pv 0) rfl) au))) au))))))))),?_⟩
  obtain⟨fas,fa,lp,ads,rfl,rfl,aE,aw⟩:∃fas fa lp ads,al=fa::fas∧ah=fa::lp::ads∧rQ C FC (off M H) H fr fa lp∧g_ C FC (off M H) H r fas ads:=by
   cases D.frs with
   | cons a b=>exact⟨_,_,_,_,rfl,rfl,a,b⟩
  obtain⟨m1,m2,n1,n2⟩:=D.pM
  obtain⟨j,as,ai,a0,O⟩:=id aE
  have aa:=D.fl
  rw[Aw]at aa
  refine⟨_,rfl,p,PC,dx,_,_,rfl,D.obj,T.cl,T.nF,rfl,.inl ⟨rfl,_,bZ.of aa⟩,lf,_,_,rfl,rfl,aa,Ux,?_⟩
  rw[List.dropLast_concat]
  have ac:fa≠p∧fa≠lf:=n2 fa (by simp)
  have ar:lp≠p∧lp≠lf:=n2 lp (by simp)
  have ay:(L2.upd H lf (.lst (fas.reverse.map V.ref))) p=some (.ins PC dx (ig lt i lf (nest (fr::r)) ev k0)):=by rw[az n1];exact D.obj
  have a3:(L2.upd H lf (.lst (fas.reverse.map V.ref))) fa=some (.ins FC j (Sw fr lp)):=by rw[az ac.2];exact ai
  refine⟨_,rfl,p,PC,dx,_,_,rfl,ay,T.cl,T.nN,rfl,_,rfl,fa,FC,j,_,_,rfl,a3,U.cl,U.nA,rfl,_,_,rfl,rfl,dx,_,ay,(by show 6<1000;decide),?_⟩
  rw[show((nest (fr::r):Nat):Int)-(fr.around:Nat)=(nest r:Nat) by show((fr.around+nest r:Nat):Int)-_=_;omega]
  generalize ae:L2.upd (L2.upd H lf (.lst (fas.reverse.map V.ref))) p _=H2
  have h2:∀b,b≠p→b≠lf→H2 b=H b:=fun b S aC=>by rw[←ae,az S,az aC]
  have out:aA (off M H) (off (p::lf::ads) H2):=fun b o q=>by
   have S:=oW q
   have bp:b≠p:=fun z=>S (by rw[z];exact m1)
   have bf:b≠lf:=fun z=>S (by rw[z];exact m2)
   refine gm (by rw[h2 b bp bf];exact aU _ _ _ _ q) ?_
   rw[D.mem]at S
   simp only[hU,not_or]at S ⊢
   exact⟨bp,bf,S.2.2.2.2⟩
  have Y:jA C FC PC H2 p (p::lf::ads) ts i r (.en e kd) dx lt lf ev k0 tas fas ads:=by
   refine⟨rfl,?_,?_,out _ _ D.tl,iG D.tks out,?_,aw.mono out fun b S=>h2 b (n2 b (by simp[S])).1 (n2 b (by simp[S])).2,D.md.same out⟩
   ·have J:=D.nd
    rw[D.mem]at J
    simp only[List.nodup_cons,hU,not_or]at J ⊢
    exact⟨⟨J.1.1,J.1.2.2.2⟩,J.2.1.2.2,J.2.2.2.2⟩
   ·rw[←ae];exact ak
   ·rw[←ae,az (Ne.symm n1),ak]
  have Z:H2 fa=some (.ins FC j (Sw fr lp)):=by rw[h2 fa ac.1 ac.2];exact ai
  refine⟨_,rfl,fa,FC,j,_,_,rfl,Z,U.cl,U.nF,rfl,rfl,_,rfl,?_⟩
  by_cases hg:fr=.grp
  ·subst hg
   rw[show decide (V.int (bI .grp)=V.int 9)=true from rfl]
   refine bh ⟨_,rfl,p,PC,dx,_,rfl,Y.obj,T.cl,T.nK,(by show 6<1000;decide),?_⟩
   obtain⟨⟨a,af,ag⟩,aS⟩:=Y.md
   obtain⟨D3,a4⟩:=Y.set (i':=i) (md':=.en e 9) (ev':=ev) (k':=9) ⟨⟨a,af,ag⟩,rfl⟩
   exact k (p::lf::ads) (L2.upd H2 p (.ins PC dx (ig lt i lf (nest r) ev 9))) ⟨dx,lt,lf,ev,9,tas,fas,ads,D3⟩ (by rw[a4];exact out)
  ·have a6:bI fr≠9:=L_ hg
   rw[j5 (fun z=>a6 (V.int.inj z))]
   obtain⟨⟨a,af,ag⟩,aS⟩:=Y.md
   have ax:H2 lp=some (.lst (as.map V.ref)):=by rw[h2 lp ar.1 ar.2];exact a0
   refine aR ⟨_,rfl,p,dx,_,rfl,Y.obj,rfl,_,rfl,fa,FC,j,_,_,rfl,Z,U.cl,U.nF,rfl,_,rfl,fa,FC,j,_,_,rfl,Z,U.cl,U.nD,rfl,_,rfl,fa,FC,j,_,_,rfl,Z,U.cl,U.nP,rfl,_,rfl,p,PC,dx,_,_,rfl,Y.obj,T.cl,T.nE,rfl,(by show 1≤sizeLine;decide),fun q hq=>?_⟩
   subst af
   have s1:aA H2 (L2.upd H2 q (.lst [V.ref a])):=aA.upd hq
   refine⟨lp,q,_,_,rfl,rfl,s1 _ _ ax,ak,?_,fun L hL=>?_⟩
   ·rw[ap,←Paired.length O]
    exact iq (show(bj fr).length+1≤2000 by omega) (by decide)
   have s2:=s1.trans (aA.upd (o:=.lst (as.map V.ref++[V.ref a])) hL)
   have kp:=rP.of_same Y.there s2
   have D3:=Y.keep kp
   obtain⟨c1,c2,c3,c4⟩:=uQ (e:=e) aI hg (off (p::lf::ads) (L2.upd (L2.upd H2 q (.lst [V.ref a])) L (.lst (as.map V.ref++[V.ref a]))))
   have a5:L∉(p::lf::ads):=fun z=>by
    obtain⟨o,ho⟩:=Y.there L z
    rw[s1 _ _ ho]at hL
    cases hL
   refine⟨p,p::lf::ads,ts,i,r,.en e kd,(fr.close e).1,jB fr,L,as++[a],?_,⟨dx,lt,lf,_,_,tas,fas,ads,D3⟩,c2,gm (by rw[ak,kb];rfl) a5,?_,?_,fun H' av aT=>?_⟩
   ·rw[c1];rfl
   ·rw[c3]
    exact cu (fM (out.trans kp.out) O) (ag.same kp.out)
   ·rw[gc,←Paired.length O]
    show _+1<2000
    omega
   ·rw[c4]at av
    exact k _ _ av ((out.trans kp.out).trans aT)
end
end SB
end
section
namespace PM
noncomputable def nq(j:Jn)(fs:List Fr)(e:Vbdeaa.Exp)(k:Nat):Option (List Fr×Md):=if(fH j.kind fs e k).2.2<ik j.kind then none else push (fH j.kind fs e k).1 (.jn j (fH j.kind fs e k).2.1)
end PM
namespace SB
open PySem PySem.Spec PyProof.Rows L2 XL
open Vbdeaa (Text Exp Exps Un Bin Ins)
open PM (Fr Jn Hd Md nest cD fH)
variable {P:Program} {w:World} {K:PySem.W.Frag} {mg:Str→Option Value} {base:Heap}
theorem lC{α:Type}{xs:List α}{x:α}:qY (xs++[x]) (-1)=some x:=by
 unfold qY
 have e:M8 (xs++[x]).length (-1)=some xs.length:=by
  unfold M8
  rw[js (by decide)]
  rw[gc,cr,iA]
  first
  | rw[j4 (by omega)];congr 1;omega
  | (simp only;split<;>first | omega | (congr 1;omega))
 rw[e]
 show(xs++[x])[xs.length]?=some x
 simp
noncomputable def u5(f:Fr):Nat:=((bj f).map Vbdeam.size).sum+1
noncomputable def jo:List Fr→Nat
 | []=>0
 | f::r=>u5 f+jo r
theorem fV(f:Fr)(r:List Fr):jo (f::r)=u5 f+jo r:=rfl
theorem z_(e:Exp):1≤Vbdeam.size e:=by cases e<;>simp[Vbdeam.size]
theorem Nq(l:List Exp):l.length≤(l.map Vbdeam.size).sum:=by
 induction l with
 | nil=>simp
 | cons e r j=>have:=z_ e;simp only[i6,List.sum_cons,cr];omega
theorem Ed(fs:List Fr):fs.length≤jo fs:=by
 induction fs with
 | nil=>simp[jo]
 | cons f r j=>unfold jo u5;rw[cr];omega
theorem uZ:∀(l:List Exp)(e:Exp),Vbdeam.sizeAll (PM.app l (.cons e .nil))=(l.map Vbdeam.size).sum+Vbdeam.size e
 | [],e=>by simp[PM.app,Vbdeam.sizeAll]
 | a::l,e=>by simp only[PM.app,Vbdeam.sizeAll,uZ l e,i6,List.sum_cons];omega
theorem gF{f:Fr}{e:Exp}(h:fY f):Vbdeam.size (f.close e).1≤u5 f+Vbdeam.size e:=by
 cases f with
 | grp=>show Vbdeam.size e≤_;unfold u5;omega
 | un o=>show Vbdeam.size e+1≤_;unfold u5;simp only[bj,List.map_nil,List.sum_nil];omega
 | lst z l=>cases z with
  | best g=>show Vbdeam.sizeAll (PM.app l (.cons e .nil))+1≤_;rw[uZ];unfold u5;simp only[bj];omega
  | call n=>show Vbdeam.sizeAll (PM.app l (.cons e .nil))+1≤_;rw[uZ];unfold u5;simp only[bj];omega
 | if0=>exact h.elim
 | if1 c=>exact h.elim
 | if2 c a=>show Vbdeam.size c+Vbdeam.size a+Vbdeam.size e+1≤_;unfold u5;simp only[bj,i6,List.sum_cons,List.map_nil,List.sum_nil];omega
 | jn j a=>cases j with
  | bin o=>show Vbdeam.size a+Vbdeam.size e+1≤_;unfold u5;simp only[bj,i6,List.sum_cons,List.map_nil,List.sum_nil];omega
  | and=>show Vbdeam.size a+Vbdeam.size e+1≤_;unfold u5;simp only[bj,i6,List.sum_cons,List.map_nil,List.sum_nil];omega
  | or=>show Vbdeam.size a+Vbdeam.size e+1≤_;unfold u5;simp only[bj,i6,List.sum_cons,List.map_nil,List.sum_nil];omega
theorem iK{f:Fr}{r:List Fr}{e:Exp}(h:jo (f::r)+Vbdeam.size e≤2000):(bj f).length+1<2000:=by
 have:=Nq (bj f)
 have:=z_ e
 unfold jo u5 at h
 omega
theorem jq{f:Fr}(h:f.ends=true):fY f:=by
 cases f with
 | if0=>cases h
 | if1 c=>cases h
 | _=>exact trivial
theorem gW{f:Fr}{k:Nat}(h:k<f.place):fY f:=by
 cases f with
 | if0=>exact absurd h (Nat.not_lt_zero _)
 | if1 c=>exact absurd h (Nat.not_lt_zero _)
 | _=>exact trivial
theorem Ke{fs:List Fr}{e:Exp}{c:Nat}:jo (cD fs e c).1+Vbdeam.size (cD fs e c).2.1≤jo fs+Vbdeam.size e:=by
 induction fs generalizing e c with
 | nil=>exact f' _
 | cons f r j =>
  rw[cD]
  split
  ·rename_i h
   refine iq j ?_
   have:=gF (e:=e) (jq h)
   rw[fV]
   omega
  ·exact f' _
theorem Ru{k:Nat}{fs:List Fr}{e:Exp}{c:Nat}:jo (fH k fs e c).1+Vbdeam.size (fH k fs e c).2.1≤jo fs+Vbdeam.size e:=by
 induction fs generalizing e c with
 | nil=>exact f' _
 | cons f r j =>
  rw[fH]
  split
  ·rename_i h
   refine iq j ?_
   have:=gF (e:=e) (gW h)
   rw[fV]
   omega
  ·exact f' _
noncomputable def Aj(C FC PC:Addr):Sp:=fun vs H Q _=>∃(p:Addr)(M:List Addr)(ts:List TK)(i:Nat)(fs:List Fr)(e:Exp)(k:Nat),vs=[.ref p]∧jL C FC PC H p M ts i fs (.en e k)∧jo fs+Vbdeam.size e≤2000 ∧
 ∀j H',jL C FC PC H' p j ts i (cD fs e k).1 (.en (cD fs e k).2.1 (cD fs e k).2.2)→aA (off M H) (off j H')→Q .non H'
noncomputable def Tn(j:Jn):V:=jB (.jn j (.num (0,1)))
noncomputable def Tj(j:Jn):Int:=bI (.jn j (.num (0,1)))
noncomputable def Ag(C FC PC Ce:Addr):Sp:=fun vs H Q E=>∃(p:Addr)(M:List Addr)(ts:List TK)(i:Nat)(fs:List Fr)(e:Exp)(k:Nat)(j:Jn),vs=[.ref p,.int (Tj j),Tn j]∧jL C FC PC H p M ts i fs (.en e k)∧jo fs+Vbdeam.size e≤2000 ∧
 (∀fs' D,PM.nq j fs e k=some (fs',D)→∀z H',jL C FC PC H' p z ts i fs' D→aA (off M H) (off z H')→Q .non H')∧(PM.nq j fs e k=none→bz Ce (-6) (off M H) E)
theorem PN(j:Jn)(a:Exp):bI (.jn j a)=Tj j∧jB (.jn j a)=Tn j:=by cases j<;>exact⟨rfl,rfl⟩
theorem PJ(j:Jn):lE (Tj j) (Tn j) (j.kind:Nat)∧Qw ou 0 (j.kind:Nat) 0 (PM.ik j.kind:Nat):=by
 cases j with
 | and=>exact⟨.and_,.inr ⟨by decide,_,rfl,rfl⟩⟩
 | or=>exact⟨.or_,.inr ⟨by decide,_,rfl,rfl⟩⟩
 | bin o=>cases o<;>exact⟨.two rfl,.inr ⟨by decide,_,rfl,rfl⟩⟩
section
theorem Rq:aK ["self"] ["self"] (aD (aY 11)):=⟨rfl,rfl,rfl,by decide +kernel,rfl,by decide +kernel,by decide +kernel⟩
theorem O1{f C FC PC fE fW:Addr}{fd dE dW:FuncData}(F:fc K "end_parts" "Parser.end_parts" (aY 11) f fd)(T:iZ K PC)(TF:gf K FC)(FE:Fm K PC "end_frame" "Parser.end_frame" (aY 12) fE dE ["self"])(GE:aF P w K mg base (aW P w) 4 fE dE ["self"] (t_ C FC PC))
  (FW:Fm K FC "ends_with_part" "Frame.ends_with_part" (wR 1) fW dW ["self"]) (GW:aF P w K mg base (aW P w) 1 fW dW ["self"] (Ji C FC)):aF P w K mg base (aW P w) 5 f fd ["self"] (Aj C FC PC):=by
 refine dZ F Rq (fun vs H Q E h=>?_) (fun cdv A outer s H vs Q E hr h=>?_)
 ·obtain⟨_,_,_,_,_,_,_,rfl,_⟩:=h
  rfl
 ·obtain⟨p,M,ts,i,fs,e,kd,rfl,aa,hw,k⟩:=h
  have af:bH 1 _:=hr.mono (by omega)
  refine⟨_,ao (gB rC (PW.pt (jW (gA (aJ (pv 0) rfl) (fun _=>rfl)) (gR (eG (bQ (b7 di (aJ (pv 0) rfl) (eN cW aB) (fun _ _=>rfl)) TF.cl FW.me GW af FW.b .nil passes)))))
   (ao (aN (bQ (pv 0) T.cl FE.me GE hr FE.b .nil passes)))),?_⟩
  refine⟨fun m σ H'=>∃(G:List Addr)(fs':List Fr)(j:Exp)(k':Nat),σ=[some (.ref p)]∧m=fs'.length∧jL C FC PC H' p G ts i fs' (.en j k')∧aA (off M H) (off G H')∧jo fs'+Vbdeam.size j≤2000∧cD fs e kd=cD fs' j k',⟨_,M,fs,e,kd,rfl,rfl,aa,aA.refl _,hw,rfl⟩,?_⟩
  rintro m σ H' ⟨G,fs',j,k',rfl,rfl,L,so,Z,J⟩
  obtain⟨dx,lt,lf,ev,k0,tas,fas,ads,D⟩:=id L
  refine⟨_,rfl,p,PC,dx,_,_,rfl,D.obj,T.cl,T.nF,rfl,_,.inl ⟨_,bZ.of D.fl,rfl⟩,?_⟩
  cases fs' with
  | nil =>
   have hf:=D.frs
   cases hf
   refine aR (aR ?_)
   rw[J]at k
   exact k G H' L so
  | cons fr r =>
   obtain⟨z,fa,lp,Y,rfl,U⟩:∃z fa lp Y,fas=fa::z∧rQ C FC (off G H') H' fr fa lp:=by
    cases D.frs with
    | cons a b=>exact⟨_,_,_,‹_›,rfl,a⟩
   have S:=D.fl
   rw[Aw]at S
   obtain⟨ai,as,ac,av,al⟩:=id U
   rw[Aw,show(!(z.reverse.map V.ref++[V.ref fa]).isEmpty)=true by simp]
   refine bh ⟨_,rfl,p,PC,dx,_,_,rfl,D.obj,T.cl,T.nF,rfl,_,rfl,lf,_,_,_,rfl,rfl,bZ.of S,lC,fa,ai,_,rfl,ac,rfl,off G H',fa,lp,fr,rfl,U,_,rfl,?_⟩
   cases he:fr.ends with
   | true =>
    refine bh ⟨fun σ' O=>∃(G:List Addr)(fs':List Fr)(j:Exp)(k':Nat),σ'=[some (.ref p)]∧fs'.length<(fr::r).length∧jL C FC PC O p G ts i fs' (.en j k')∧aA (off M H) (off G O)∧jo fs'+Vbdeam.size j≤2000∧cD fs e kd=cD fs' j k',fun σ' O ⟨M2,ag,e2,k2,h1,h2,h3⟩=>⟨_,h2,M2,ag,e2,k2,h1,rfl,h3⟩,?_⟩
    refine⟨_,rfl,p,dx,_,rfl,D.obj,rfl,p,G,ts,i,fr,r,j,k',rfl,L,jq he,iK Z,fun M2 H2 ae ah=>?_⟩
    have ar:=gF (e:=j) (jq he)
    refine⟨M2,r,_,_,rfl,Nat.lt_succ_self _,ae,so.trans ah,?_,?_⟩
    ·rw[fV]at Z;omega
    ·rw[J,cD,j4 he]
   | false =>
    refine aR ?_
    have ep:cD (fr::r) j k'=(fr::r,j,k'):=by rw[cD,js (by rw[he];exact ip)]
    rw[J,ep]at k
    exact k G H' L so
theorem JC:aK ["self","form","detail","kind"] ["self","form","detail"] (aD (aY 10)):=⟨rfl,rfl,rfl,by decide +kernel,rfl,by decide +kernel,by decide +kernel⟩
theorem Ox{f C FC PC Ce fE fU fK fP fI:Addr}{fd dE dU dK dP dI:FuncData}(F:fc K "join_two" "Parser.join_two" (aY 10) f fd)(T:iZ K PC)(TF:gf K FC)(N:CN K mg)(X:XC P w K mg base "NoExpression" Ce fI dI (-6))(FE:Fm K PC "end_frame" "Parser.end_frame" (aY 12) fE dE ["self"])(GE:aF P w K mg base (aW P w) 4 fE dE ["self"] (t_ C FC PC))
  (FU:Fm K PC "push" "Parser.push" (aY 3) fU dU ["self","form","detail","parts"]) (GU:aF P w K mg base (aW P w) 4 fU dU ["self","form","detail","parts"] (jd C FC PC Ce)) (FK:Fn K mg "kind_of" qD fK dK ["form","detail"]) (FP:Fn K mg "place_of" pU fP dP ["kind","position"]):aF P w K mg base (aW P w) 5 f fd ["self","form","detail"] (Ag C FC PC Ce):=by
 have GK:aF P w K mg base (aW P w) 1 fK dK ["form","detail"] t7:=sV FK N
 have GP:aF P w K mg base (aW P w) 1 fP dP ["kind","position"] (yE ou 0):=yU FP N
 refine dZ F JC (fun vs H Q E h=>?_) (fun cdv A outer s H vs Q E hr h=>?_)
 ·obtain⟨_,_,_,_,_,_,_,_,rfl,_⟩:=h
  rfl
 ·obtain⟨p,M,ts,i,fs,e,kd,j,rfl,ai,hw,k,kr⟩:=h
  have al:bH 1 _:=hr.mono (by omega)
  have ax:bH 3 _:=hr.mono (by omega)
  obtain⟨jk,jp⟩:=PJ j
  have tail:∃tr,zQ (eU (aW P w) P w K mg base ["self","form","detail","kind"] "Parser.join_two" (aD (aY 10)) f cdv A outer s H E) ((eO (aY 10)).drop 2) tr ∧
    ∀(J:List Addr)(H':Hp)(fs':List Fr)(z:Exp)(k':Nat),jL C FC PC H' p J ts i fs' (.en z k')→aA (off M H) (off J H')→jo fs'+Vbdeam.size z≤2000→fH j.kind fs e kd=(fs',z,k')→tr { nx:=fun _ H'=>Q .non H',rt:=Q } [some (.ref p),some (.int (Tj j)),some (Tn j),some (.int (j.kind:Nat))] H':=by
   refine⟨_,aq (aX (aG DQ (aJ (pv 0) rfl) (a_ GP al rfl FP.m FP.F.kp FP.b .nil passes (aj (pv 3) (aj aB au))) (aL _)) (ao (bO X.made X.cls X.ok ax rfl X.m X.b rfl bF)) aP)
    (ao (aN (bc (pv 0) T.cl FU.me GU hr FU.b .nil passes (aj (pv 1) (aj (pv 2) (aj (bT (aj (aJ (pv 0) rfl) au)) au)))))),?_⟩
   intro J H' fs' z k' L so S G
   obtain⟨dx,lt,lf,ev,k0,tas,fas,ads,D⟩:=id L
   obtain⟨⟨a,rfl,ay⟩,rfl⟩:=D.md
   have Y:PM.nq j fs e kd=if k'<PM.ik j.kind then none else PM.push fs' (.jn j z):=by unfold PM.nq;rw[G]
   refine⟨_,rfl,p,PC,dx,_,_,rfl,D.obj,T.cl,T.nK,rfl,_,rfl,_,_,_,rfl,jp,_,_,rfl,rfl,_,rfl,?_⟩
   by_cases ar:k'<PM.ik j.kind
   ·rw[i9 (by omega)]
    exact bh ((kr (by rw[Y,j4 ar])).mono (so.trans (aU _ _))).go
   ·rw[j5 (by omega)]
    rw[js ar]at Y
    obtain⟨f1,f2⟩:=PN j z
    refine aR ⟨_,rfl,p,dx,_,rfl,D.obj,rfl,_,rfl,_,rfl,_,rfl,p,PC,dx,_,_,rfl,D.obj,T.cl,T.nE,rfl,(by show 1≤sizeLine;decide),fun lp ah=>?_⟩
    refine⟨p,lp,J,ts,i,fs',.en z k',.jn j z,[a],H',by rw[f1,f2];rfl,L,ah,rfl,.cons ay .nil,trivial,?_,fun hn M2 H2 Z ae=>?_,fun hn=>?_⟩
    ·have:=Ed fs'
     have:=z_ z
     omega
    ·exact k _ _ (by rw[Y];unfold PM.push;rw[js (by omega)]) M2 H2 Z (so.trans ae)
    ·exact(kr (by rw[Y];unfold PM.push;rw[j4 hn])).mono so
  obtain⟨tr,aa,tail⟩:=tail
  refine⟨_,aq (bw (i:=3) JC.nd rfl (Or.inl rfl) (a_ GK al rfl FK.m FK.F.kp FK.b .nil passes (aj (pv 1) (aj (pv 2) au))))
   (aq (gB rC (PW.pt (jW (gA (aJ (pv 0) rfl) (fun _=>rfl)) (gR (aG qG (aJ (b7 di (aJ (pv 0) rfl) (eN cW aB) (fun _ _=>rfl)) rfl) (pv 3) (aL _)))))
    (ao (aN (bQ (pv 0) T.cl FE.me GE hr FE.b .nil passes)))) aa),?_⟩
  refine⟨_,rfl,_,rfl,_,_,_,rfl,jk,?_⟩
  refine⟨fun m σ H'=>∃(J:List Addr)(fs':List Fr)(z:Exp)(k':Nat),σ=[some (.ref p),some (.int (Tj j)),some (Tn j),some (.int (j.kind:Nat))]∧m=fs'.length∧jL C FC PC H' p J ts i fs' (.en z k')∧aA (off M H) (off J H')∧jo fs'+Vbdeam.size z≤2000∧fH j.kind fs e kd=fH j.kind fs' z k',⟨_,M,fs,e,kd,rfl,rfl,ai,aA.refl _,hw,rfl⟩,?_⟩
  rintro m σ H' ⟨J,fs',z,k',rfl,rfl,L,so,S,G⟩
  obtain⟨dx,lt,lf,ev,k0,tas,fas,ads,D⟩:=id L
  refine⟨_,rfl,p,PC,dx,_,_,rfl,D.obj,T.cl,T.nF,rfl,_,.inl ⟨_,bZ.of D.fl,rfl⟩,?_⟩
  cases fs' with
  | nil =>
   have hf:=D.frs
   cases hf
   exact aR (aR (tail J H' [] z k' L so S G))
  | cons fr r =>
   obtain⟨O,fa,lp,ag,rfl,av⟩:∃O fa lp ag,fas=fa::O∧rQ C FC (off J H') H' fr fa lp:=by
    cases D.frs with
    | cons a b=>exact⟨_,_,_,‹_›,rfl,a⟩
   have af:=D.fl
   rw[Aw]at af
   obtain⟨aE,as,aw,ah,aI⟩:=id av
   rw[Aw,show(!(O.reverse.map V.ref++[V.ref fa]).isEmpty)=true by simp]
   refine bh ⟨_,rfl,p,PC,dx,_,_,rfl,D.obj,T.cl,T.nF,rfl,_,rfl,lf,_,_,_,rfl,rfl,bZ.of af,lC,fa,FC,aE,_,_,rfl,aw,TF.cl,TF.nL,rfl,_,rfl,_,_,rfl,rfl,_,rfl,?_⟩
   by_cases U:j.kind<fr.place
   ·rw[i9 (by omega)]
    refine bh ⟨fun σ' ac=>∃(J:List Addr)(fs':List Fr)(z:Exp)(k':Nat),σ'=[some (.ref p),some (.int (Tj j)),some (Tn j),some (.int (j.kind:Nat))]∧fs'.length<(fr::r).length∧jL C FC PC ac p J ts i fs' (.en z k')∧aA (off M H) (off J ac)∧jo fs'+Vbdeam.size z≤2000∧fH j.kind fs e kd=fH j.kind fs' z k',fun σ' ac ⟨M2,aC,e2,k2,h1,h2,h3⟩=>⟨_,h2,M2,aC,e2,k2,h1,rfl,h3⟩,?_⟩
    refine⟨_,rfl,p,dx,_,rfl,D.obj,rfl,p,J,ts,i,fr,r,z,k',rfl,L,gW U,iK S,fun M2 H2 Z ae=>?_⟩
    have aS:=gF (e:=z) (gW U)
    refine⟨M2,r,_,_,rfl,Nat.lt_succ_self _,Z,so.trans ae,?_,?_⟩
    ·rw[fV]at S;omega
    ·rw[G,fH,j4 U]
   ·rw[j5 (by omega)]
    exact aR (tail J H' _ z k' L so S (by rw[G,fH,js U]))
end
end SB
end
section
namespace SB
open PySem PySem.Spec PyProof.Rows L2 XL
open Vbdeaa (Text Exp Exps Un Bin Ins wd sg)
open PM (Fr Jn Hd Md nest cD fH around)
variable {P:Program} {w:World} {K:PySem.W.Frag} {mg:Str→Option Value} {base:Heap}
noncomputable def grow:Fr→Exp→Option Fr
 | .if0,e=>some (.if1 e)
 | .if1 c,e=>some (.if2 c e)
 | .lst h l,e=>some (.lst h (l++[e]))
 | _,_=>none
theorem Sv{f j:Fr}{e:Exp}(h:grow f e=some j)(lp:Addr):Sw j lp=Sw f lp∧bj j=bj f++[e]∧j.around=f.around:=by
 cases f with
 | if0=>cases h;exact⟨rfl,rfl,rfl⟩
 | if1 c=>cases h;exact⟨rfl,rfl,rfl⟩
 | lst z l=>cases h;cases z<;>exact⟨rfl,rfl,rfl⟩
 | _=>cases h
noncomputable def wH(C FC PC:Addr):Sp:=fun vs H Q _=>∃(p:Addr)(M:List Addr)(ts:List TK)(i:Nat)(f j:Fr)(r:List Fr)(e:Exp)(k:Nat),vs=[.ref p]∧jL C FC PC H p M ts i (f::r) (.en e k)∧grow f e=some j∧(bj f).length≤3000 ∧
 ∀H',jL C FC PC H' p M ts i (j::r) .beg→aA (off M H) (off M H')→Q .non H'
noncomputable def Fz(C FC PC Ce:Addr)(g:List Fr→Exp→Option (List Fr×Md)):Sp:=fun vs H Q E=>∃(p:Addr)(M:List Addr)(ts:List TK)(i:Nat)(fs:List Fr)(e:Exp)(k:Nat),vs=[.ref p]∧jL C FC PC H p M ts i fs (.en e k)∧jo fs+Vbdeam.size e≤2000 ∧
 (∀fs' z,g fs e=some (fs',z)→∀j H',jL C FC PC H' p j ts i fs' z→aA (off M H) (off j H')→Q .non H')∧(g fs e=none→bz Ce (-6) (off M H) E)
noncomputable def Je(C FC PC Ce:Addr):Sp:=fun vs H Q E=>∃(p:Addr)(M:List Addr)(ts:List TK)(i:Nat)(fs:List Fr)(e:Exp)(k:Nat)(c:Nat),vs=[.ref p,.int c]∧c≤1∧jL C FC PC H p M ts i fs (.en e k)∧jo fs+Vbdeam.size e≤2000 ∧
 (∀fs' z,around (if c=0 then wd "then" else wd "else") fs e=some (fs',z)→∀j H',jL C FC PC H' p j ts i fs' z→aA (off M H) (off j H')→Q .non H')∧(around (if c=0 then wd "then" else wd "else") fs e=none→bz Ce (-6) (off M H) E)
theorem tM(fs:List Fr)(e:Exp):around (wd "then") fs e=match fs with
  | .if0::r=>some (.if1 e::r,.beg)
  | _=>none:=by unfold around;rw[j4 rfl]<;>rfl
theorem tQ(fs:List Fr)(e:Exp):around (wd "else") fs e=match fs with
  | .if1 c::r=>some (.if2 c e::r,.beg)
  | _=>none:=by unfold around;rw[js (by decide),j4 rfl]<;>rfl
theorem uY(fs:List Fr)(e:Exp):around (sg ",") fs e=match fs with
  | .lst h l::r=>some (.lst h (l++[e])::r,.beg)
  | _=>none:=by unfold around;rw[js (by decide),js (by decide),j4 rfl]<;>rfl
theorem yd(fs:List Fr)(e:Exp):around (sg ")") fs e=match fs with
  | f::r=>if f.brk=true then some (r,.en (f.close e).1 (f.close e).2)else none
  | []=>none:=by unfold around;rw[js (by decide),js (by decide),js (by decide),j4 rfl]<;>rfl
section
theorem JB:aK ["self","frame"] ["self"] (aD (aY 16)):=⟨rfl,rfl,rfl,by decide +kernel,rfl,by decide +kernel,by decide +kernel⟩
theorem DW{f C FC PC:Addr}{fd:FuncData}(F:fc K "keep_part" "Parser.keep_part" (aY 16) f fd)(T:iZ K PC)(TF:gf K FC):aF P w K mg base (aW P w) 1 f fd ["self"] (wH C FC PC):=by
 refine dZ F JB (fun vs H Q E h=>?_) (fun cdv A outer s H vs Q E hr h=>?_)
 ·obtain⟨_,_,_,_,_,_,_,_,_,rfl,_⟩:=h
  rfl
 ·obtain⟨p,M,ts,i,fr,G,r,e,kd,rfl,⟨dx,lt,lf,ev,k0,tas,ac,S,D⟩,hg,Y,k⟩:=h
  refine⟨_,aq (bw (i:=1) JB.nd rfl (Or.inl rfl) (b7 di (aJ (pv 0) rfl) (eN cW aB) (fun _ _=>rfl)))
   (aq (aN (gC PySem.F.plainAttrs_list PySem.F.slot_list_append PySem.F.type_list_append gr (aJ (pv 1) rfl) (aj (aJ (pv 0) rfl) au)))
   (ao (b8 (pv 0) Bd rfl))),?_⟩
  obtain⟨fas,fa,lp,ads,rfl,rfl,ah,ae⟩:∃fas fa lp ads,ac=fa::fas∧S=fa::lp::ads∧rQ C FC (off M H) H fr fa lp∧g_ C FC (off M H) H r fas ads:=by
   cases D.frs with
   | cons a b=>exact⟨_,_,_,_,rfl,rfl,a,b⟩
  obtain⟨m1,m2,n1,n2⟩:=D.pM
  obtain⟨af,as,Z,aa,J⟩:=id ah
  obtain⟨⟨a,rfl,al⟩,rfl⟩:=D.md
  have U:=D.fl
  rw[Aw]at U
  have ai:=n2 fa (by simp)
  have O:=n2 lp (by simp)
  refine⟨_,rfl,p,PC,dx,_,_,rfl,D.obj,T.cl,T.nF,rfl,_,rfl,lf,_,_,_,rfl,rfl,bZ.of U,lC,?_⟩
  refine⟨_,rfl,fa,FC,af,_,_,rfl,Z,TF.cl,TF.nP,rfl,.inl ⟨rfl,_,bZ.of aa⟩,_,rfl,p,PC,dx,_,_,rfl,D.obj,T.cl,T.nE,rfl,lp,_,_,rfl,rfl,aa,?_,?_⟩
  ·rw[ap,←Paired.length J]
   exact iO Y (by decide)
  have av:(L2.upd H lp (.lst (as.map V.ref++[V.ref a]))) p=some (.ins PC dx (ig lt i lf (nest (fr::r)) (.ref a) (kd:Nat))):=by rw[az (Ne.symm O.1)];exact D.obj
  refine⟨_,rfl,p,PC,dx,_,rfl,av,T.cl,T.nE,(by show 6<1000;decide),?_⟩
  obtain⟨g1,g2,g3⟩:=Sv hg lp
  have j:=D.nd
  rw[D.mem]at j
  simp only[List.nodup_cons,hU,not_or]at j
  have ag:fa≠lp:=j.2.2.1.1
  have ho:off M (L2.upd (L2.upd H lp (.lst (as.map V.ref++[V.ref a]))) p (.ins PC dx (ig lt i lf (nest (G::r)) .non (kd:Nat))))=off M H:=by
   rw[sW m1,sW (by rw[D.mem];simp)]
  have L:nest (G::r)=nest (fr::r):=by show G.around+nest r=fr.around+nest r;rw[g3]
  have:=k (L2.upd (L2.upd H lp (.lst (as.map V.ref++[V.ref a]))) p (.ins PC dx (ig lt i lf (nest (G::r)) .non (kd:Nat)))) ⟨dx,lt,lf,.non,(kd:Nat),tas,fa::fas,fa::lp::ads,D.mem,D.nd,ak,by rw[ho];exact D.tl,by rw[ho];exact D.tks,by rw[az (Ne.symm n1),az (Ne.symm O.2)];exact D.fl,?_,rfl⟩ (by rw[ho];exact aA.refl _)
  ·rw[L]at this
   exact this
  ·rw[ho]
   refine .cons ⟨af,as++[a],?_,?_,by rw[g2];exact cu J al⟩ (ae.mono (aA.refl _) fun b hb=>?_)
   ·rw[az ai.1,az ag,g1];exact Z
   ·rw[az O.1,ak,kb];rfl
   ·have nb:=n2 b (by simp[hb])
    have ar:b≠lp:=fun z=>j.2.2.2.1 (by rw[←z];exact hb)
    rw[az nb.1,az ar]
theorem Ua:aK ["self","count"] ["self","count"] (aD (aY 14)):=⟨rfl,rfl,rfl,by decide +kernel,rfl,by decide +kernel,by decide +kernel⟩
theorem RW{f C FC PC Ce fK fI:Addr}{fd dK dI:FuncData}(F:fc K "next_of_if" "Parser.next_of_if" (aY 14) f fd)(T:iZ K PC)(TF:gf K FC)(N:CN K mg)(G:CG K mg)(X:XC P w K mg base "NoExpression" Ce fI dI (-6))(FK:Fm K PC "keep_part" "Parser.keep_part" (aY 16) fK dK ["self"]):aF P w K mg base (aW P w) 4 f fd ["self","count"] (Je C FC PC Ce):=by
 have GK:aF P w K mg base (aW P w) 1 fK dK ["self"] (wH C FC PC):=DW FK.F T TF
 refine dZ F Ua (fun vs H Q E h=>?_) (fun cdv A outer s H vs Q E hr h=>?_)
 ·obtain⟨_,_,_,_,_,_,_,_,rfl,_⟩:=h
  rfl
 ·obtain⟨p,M,ts,i,fs,e,kd,c,rfl,hc,Y,hw,k,kr⟩:=h
  have ax:bH 1 _:=hr.mono (by omega)
  refine⟨_,aq (aX (PW.pt (m_ (jX (gA (aJ (pv 0) rfl) (fun _=>rfl))) (m_ (aG vH (aJ (b7 di (aJ (pv 0) rfl) (eN cW aB) (fun _ _=>rfl)) rfl) (bu rfl N.IF) (aL _))
    (jV (aG vH (bW bG (by rfl) G.len (by decide +kernel) (aj (aJ (b7 di (aJ (pv 0) rfl) (eN cW aB) (fun _ _=>rfl)) rfl) au)) (pv 1) (aL _)))))) (ao (bO X.made X.cls X.ok hr rfl X.m X.b rfl bF)) aP)
   (ao (aN (bQ (pv 0) T.cl FK.me GK ax FK.b .nil passes))),?_⟩
  obtain⟨dx,lt,lf,ev,k0,tas,fas,ads,D⟩:=id Y
  have bad:around (if c=0 then wd "then" else wd "else") fs e=none→bz Ce (-6) H E:=fun h=>(kr h).mono (aU M H)
  refine⟨_,rfl,p,PC,dx,_,_,rfl,D.obj,T.cl,T.nF,rfl,_,.inl ⟨_,bZ.of D.fl,rfl⟩,?_⟩
  cases fs with
  | nil =>
   have hf:=D.frs
   cases hf
   refine bh (bh (bad ?_).go)
   split
   ·rw[tM]
   ·rw[tQ]
  | cons fr r =>
   obtain⟨L,fa,lp,ae,rfl,ar⟩:∃L fa lp ae,fas=fa::L∧rQ C FC (off M H) H fr fa lp:=by
    cases D.frs with
    | cons a b=>exact⟨_,_,_,‹_›,rfl,a⟩
   have Z:=D.fl
   rw[Aw]at Z
   obtain⟨al,as,af,aw,ag⟩:=id ar
   rw[Aw,show(!(L.reverse.map V.ref++[V.ref fa]).isEmpty)=true by simp]
   refine aR ⟨_,rfl,p,PC,dx,_,_,rfl,D.obj,T.cl,T.nF,rfl,_,rfl,lf,_,_,_,rfl,rfl,bZ.of Z,lC,fa,FC,al,_,_,rfl,af,TF.cl,TF.nF,rfl,rfl,_,rfl,?_⟩
   have el:(as.map V.ref).length=(bj fr).length:=by rw[ap,←Paired.length ag]
   have go:∀U,grow fr e=some U→around (if c=0 then wd "then" else wd "else") (fr::r) e=some (U::r,.beg)→wH C FC PC [.ref p] H (fun v H'=>Q .non H') E:=fun U hg ha=>by
    refine⟨p,M,ts,i,fr,U,r,e,kd,rfl,Y,hg,?_,fun H' ay av=>k _ _ ha M H' ay av⟩
    have:=iK hw
    omega
   have ah:bI fr=6→decide (V.int ((as.map V.ref).length:Nat)=V.int (c:Nat))=false→around (if c=0 then wd "then" else wd "else") (fr::r) e=none:=fun O J=>by
    rw[el]at J
    have J:(bj fr).length≠c:=fun z=>by rw[z]at J;exact absurd (i9 rfl) (by rw[J];exact ip)
    split
    ·rename_i S
     rw[tM]
     cases fr with
     | if0=>exact absurd S.symm J
     | _=>rfl
    ·rename_i S
     have ac:c=1:=by omega
     rw[tQ]
     cases fr with
     | if1 cc=>exact absurd ac.symm J
     | _=>rfl
   have ai:bI fr≠6→around (if c=0 then wd "then" else wd "else") (fr::r) e=none:=fun O=>by
    split
    ·rw[tM]
     cases fr with
     | if0=>exact absurd rfl O
     | _=>rfl
    ·rw[tQ]
     cases fr with
     | if1 cc=>exact absurd rfl O
     | _=>rfl
   by_cases O:bI fr=6
   ·rw[show(!decide (V.int (bI fr)=V.int 6))=false by rw[O];rfl]
    refine aR ⟨_,rfl,p,PC,dx,_,_,rfl,D.obj,T.cl,T.nF,rfl,_,rfl,lf,_,_,_,rfl,rfl,bZ.of Z,lC,fa,FC,al,_,_,rfl,af,TF.cl,TF.nP,rfl,lp,_,rfl,.inl (bZ.of aw),_,rfl,rfl,_,rfl,?_⟩
    cases J:decide (V.int ((as.map V.ref).length:Nat)=V.int (c:Nat))with
    | false =>
     have b:=bad (ah O J)
     exact bh (fun e d H' s' x1 x2=>b e d H' s' x1 x2)
    | true =>
     have J:(bj fr).length=c:=by
      have:=jv J
      rw[el]at this
      have:=V.int.inj this
      omega
     refine aR ⟨_,rfl,p,dx,_,rfl,D.obj,rfl,?_⟩
     cases fr with
     | if0 =>
      have S:c=0:=J.symm
      exact go _ rfl (by rw[j4 S,tM])
     | if1 cc =>
      have ac:c=1:=J.symm
      exact go _ rfl (by rw[js (by omega),tQ])
     | if2 cc aa =>
      have:2=c:=J
      omega
     | lst hh l=>cases hh<;>simp[bI]at O
     | jn j a=>cases j<;>simp[bI]at O
     | _=>simp[bI]at O
   ·rw[show(!decide (V.int (bI fr)=V.int 6))=true by rw[j5 (fun z=>O (V.int.inj z))];rfl]
    exact bh (bh (bad (ai O)).go)
end
section
theorem Ub:aK ["self"] ["self"] (aD (aY 15)):=⟨rfl,rfl,rfl,by decide +kernel,rfl,by decide +kernel,by decide +kernel⟩
theorem RX{f C FC PC Ce fK fI:Addr}{fd dK dI:FuncData}(F:fc K "next_in_brackets" "Parser.next_in_brackets" (aY 15) f fd)(T:iZ K PC)(TF:gf K FC)(ae:GC K mg "PICK" (.i 7))(ag:GC K mg "CALL" (.i 8))(X:XC P w K mg base "NoExpression" Ce fI dI (-6))(FK:Fm K PC "keep_part" "Parser.keep_part" (aY 16) fK dK ["self"]):aF P w K mg base (aW P w) 4 f fd ["self"] (Fz C FC PC Ce (around (sg ","))):=by
 have GK:aF P w K mg base (aW P w) 1 fK dK ["self"] (wH C FC PC):=DW FK.F T TF
 refine dZ F Ub (fun vs H Q E h=>?_) (fun cdv A outer s H vs Q E hr h=>?_)
 ·obtain⟨_,_,_,_,_,_,_,rfl,_⟩:=h
  rfl
 ·obtain⟨p,M,ts,i,fs,e,kd,rfl,U,hw,k,kr⟩:=h
  have ac:bH 1 _:=hr.mono (by omega)
  refine⟨_,aq (aX (PW.pt (m_ (jX (gA (aJ (pv 0) rfl) (fun _=>rfl))) (jV (aG xg (aJ (b7 di (aJ (pv 0) rfl) (eN cW aB) (fun _ _=>rfl)) rfl) (bJ (aj (bu rfl ae) (aj (bu rfl ag) au))) rfl)))) (ao (bO X.made X.cls X.ok hr rfl X.m X.b rfl bF)) aP)
   (ao (aN (bQ (pv 0) T.cl FK.me GK ac FK.b .nil passes))),?_⟩
  obtain⟨dx,lt,lf,ev,k0,tas,fas,ads,D⟩:=id U
  refine⟨_,rfl,p,PC,dx,_,_,rfl,D.obj,T.cl,T.nF,rfl,_,.inl ⟨_,bZ.of D.fl,rfl⟩,?_⟩
  cases fs with
  | nil =>
   have hf:=D.frs
   cases hf
   exact bh (bh ((kr (by rw[uY])).mono (aU M H)).go)
  | cons fr r =>
   obtain⟨J,fa,lp,S,rfl,Y⟩:∃J fa lp S,fas=fa::J∧rQ C FC (off M H) H fr fa lp:=by
    cases D.frs with
    | cons a b=>exact⟨_,_,_,‹_›,rfl,a⟩
   have O:=D.fl
   rw[Aw]at O
   obtain⟨ah,as,Z,al,ai⟩:=id Y
   rw[Aw,show(!(J.reverse.map V.ref++[V.ref fa]).isEmpty)=true by simp]
   refine aR ⟨_,rfl,p,PC,dx,_,_,rfl,D.obj,T.cl,T.nF,rfl,_,rfl,lf,_,_,_,rfl,rfl,bZ.of O,lC,fa,FC,ah,_,_,rfl,Z,TF.cl,TF.nF,rfl,(by show 2≤sizeLine;decide),fun q hq=>⟨q,_,rfl,.inr (cR.of ak),rfl,rfl,_,rfl,?_⟩⟩
   have sq:aA H (L2.upd H q (.tup [.int 7,.int 8])):=aA.upd hq
   have kp:=rP.of_same D.there sq
   have L:jL C FC PC (L2.upd H q (.tup [.int 7,.int 8])) p M ts i (fr::r) (.en e kd):=⟨dx,lt,lf,ev,k0,tas,_,ads,D.keep kp⟩
   have no:(∀G l,fr≠.lst G l)→(!inV (V.int (bI fr)) [.int 7,.int 8])=true∧around (sg ",") (fr::r) e=none:=fun h=>by
    rw[uY]
    cases fr with
    | lst G l=>exact absurd rfl (h G l)
    | jn j a=>cases j<;>exact⟨rfl,rfl⟩
    | _=>exact⟨rfl,rfl⟩
   by_cases hl:∃G l,fr=.lst G l
   ·obtain⟨G,l,rfl⟩:=hl
    rw[show(if true=true then !inV (V.int (bI (.lst G l))) [.int 7,.int 8]else inV (V.int (bI (.lst G l))) [.int 7,.int 8])=false by cases G<;>rfl]
    refine aR ⟨_,rfl,p,dx,_,rfl,(D.keep kp).obj,rfl,p,M,ts,i,.lst G l,.lst G (l++[e]),r,e,kd,rfl,L,rfl,?_,fun H' af aa=>k _ _ (by rw[uY]) M H' af (kp.out.trans aa)⟩
    have:=iK hw
    omega
   ·obtain⟨n1,n2⟩:=no fun G l z=>hl ⟨G,l,z⟩
    rw[show(if true=true then !inV (V.int (bI fr)) [.int 7,.int 8]else inV (V.int (bI fr)) [.int 7,.int 8])=true from n1]
    have b:=(kr n2).mono ((aU M H).trans sq)
    exact bh (fun e d H' s' x1 x2=>b e d H' s' x1 x2)
theorem Rk:aK ["self"] ["self"] (aD (aY 17)):=⟨rfl,rfl,rfl,by decide +kernel,rfl,by decide +kernel,by decide +kernel⟩
theorem Om{f C FC PC Ce fE fI:Addr}{fd dE dI:FuncData}(F:fc K "close_brackets" "Parser.close_brackets" (aY 17) f fd)(T:iZ K PC)(TF:gf K FC)(X:XC P w K mg base "NoExpression" Ce fI dI (-6))(FE:Fm K PC "end_frame" "Parser.end_frame" (aY 12) fE dE ["self"])(GE:aF P w K mg base (aW P w) 4 fE dE ["self"] (t_ C FC PC)):aF P w K mg base (aW P w) 5 f fd ["self"] (Fz C FC PC Ce (around (sg ")"))):=by
 refine dZ F Rk (fun vs H Q E h=>?_) (fun cdv A outer s H vs Q E hr h=>?_)
 ·obtain⟨_,_,_,_,_,_,_,rfl,_⟩:=h
  rfl
 ·obtain⟨p,M,ts,i,fs,e,kd,rfl,z,hw,k,kr⟩:=h
  have Z:bH 3 _:=hr.mono (by omega)
  refine⟨_,aq (aX (PW.pt (m_ (jX (gA (aJ (pv 0) rfl) (fun _=>rfl))) (jV (jX (eG (aJ (b7 di (aJ (pv 0) rfl) (eN cW aB) (fun _ _=>rfl)) rfl)))))) (ao (bO X.made X.cls X.ok Z rfl X.m X.b rfl bF)) aP)
   (ao (aN (bQ (pv 0) T.cl FE.me GE hr FE.b .nil passes))),?_⟩
  obtain⟨dx,lt,lf,ev,k0,tas,fas,ads,D⟩:=id z
  refine⟨_,rfl,p,PC,dx,_,_,rfl,D.obj,T.cl,T.nF,rfl,_,.inl ⟨_,bZ.of D.fl,rfl⟩,?_⟩
  cases fs with
  | nil =>
   have hf:=D.frs
   cases hf
   exact bh (bh ((kr (by rw[yd])).mono (aU M H)).go)
  | cons fr r =>
   obtain⟨j,fa,lp,J,rfl,O⟩:∃j fa lp J,fas=fa::j∧rQ C FC (off M H) H fr fa lp:=by
    cases D.frs with
    | cons a b=>exact⟨_,_,_,‹_›,rfl,a⟩
   have G:=D.fl
   rw[Aw]at G
   obtain⟨ac,as,U,af,ae⟩:=id O
   rw[Aw,show(!(j.reverse.map V.ref++[V.ref fa]).isEmpty)=true by simp]
   refine aR ⟨_,rfl,p,PC,dx,_,_,rfl,D.obj,T.cl,T.nF,rfl,_,rfl,lf,_,_,_,rfl,rfl,bZ.of G,lC,fa,FC,ac,_,_,rfl,U,TF.cl,TF.nB,rfl,_,rfl,?_⟩
   cases L:fr.brk with
   | false =>
    have b:=(kr (by rw[yd];show(if fr.brk=true then _ else none)=none;rw[L];rfl)).mono (aU M H)
    exact bh (fun e d H' s' x1 x2=>b e d H' s' x1 x2)
   | true =>
    have S:fY fr:=by
     cases fr with
     | if0=>cases L
     | if1 c=>cases L
     | _=>exact trivial
    exact aR ⟨_,rfl,p,dx,_,rfl,D.obj,rfl,p,M,ts,i,fr,r,e,kd,rfl,z,S,iK hw,fun M' H' aa Y=>k _ _ (by rw[yd];show(if fr.brk=true then _ else none)=_;rw[j4 L]) M' H' aa Y⟩
end
noncomputable def tag:TK→Str
 | .num _ => "number"
 | .name _ => "name"
 | .word _ => "word"
 | .sign s=>(rB s).1
 | _ => "end"
noncomputable def U9:TK→V→Prop
 | .num _,v=>∃r,v=.ref r
 | .name n,v=>v=.str (bD n)
 | .word n,v=>v=.str (bD n)
 | .sign s,v=>v=(rB s).2
 | _,v=>v=.str ""
theorem oF{K:PySem.W.Frag}{H:Hp}{x:TK}{a:Addr}(h:cO H x a):∃v,H a=some (.tup [.str (tag x),v])∧(fX v=true∨∃r zs,v=.ref r∧cR K H r zs)∧U9 x v:=by
 cases x with
 | num q=>obtain⟨p,h1,h2⟩:=h;exact⟨_,h1,.inr ⟨p,_,rfl,cR.of h2⟩,p,rfl⟩
 | name n=>exact⟨_,h,.inl rfl,rfl⟩
 | word n=>exact⟨_,h,.inl rfl,rfl⟩
 | sign s =>
  refine⟨_,h,.inl ?_,rfl⟩
  unfold rB
  split<;>rfl
 | eof=>exact⟨_,h,.inl rfl,rfl⟩
 | bad=>exact h.elim
noncomputable def cQ(x:TK)(b:Str)(u:V):Bool:=match x with
 | .num _=>false
 | .name n=>decide (("name" : Str)=b)&&zT (.str (bD n)) u
 | .word n=>decide (("word" : Str)=b)&&zT (.str (bD n)) u
 | .sign s=>decide ((rB s).1=b)&&zT (rB s).2 u
 | _=>decide (("end" : Str)=b)&&zT (.str "") u
theorem Ie{x:TK}{v:V}(h:U9 x v)(b:Str)(u:V):(decide (tag x=b)&&zT v u)=cQ x b u:=by
 cases x with
 | num q =>
  obtain⟨r,rfl⟩:=h
  show(_&&(false&&_))=false
  rw[Bool.false_and,Bool.and_false]
 | _=>have h:v=_:=h;subst h;rfl
theorem o5{x:TK}(h:eV x):cQ x "word" (.str "then")=decide (x=wd "then")∧cQ x "word" (.str "else")=decide (x=wd "else")∧cQ x "mark" (.str ",")=decide (x=sg ",")∧cQ x "mark" (.str ")")=decide (x=sg ")")∧cQ x "mark" (.str "(")=decide (x=sg "(")∧cQ x "two" (.int 1)=decide (x=sg "-")∧cQ x "word" (.str "and")=decide (x=wd "and")∧cQ x "word" (.str "or")=decide (x=wd "or"):=by
 cases x with
 | num q=>exact⟨rfl,rfl,rfl,rfl,rfl,rfl,rfl,rfl⟩
 | name n=>exact⟨rfl,rfl,rfl,rfl,rfl,rfl,rfl,rfl⟩
 | word n =>
  have:∀n∈Vbdeaa.WORDS,cQ (.word n) "word" (.str "then")=decide (Vbdeaa.Tok.word n=wd "then")∧cQ (.word n) "word" (.str "else")=decide (Vbdeaa.Tok.word n=wd "else")∧cQ (.word n) "mark" (.str ",")=decide (Vbdeaa.Tok.word n=sg ",")∧cQ (.word n) "mark" (.str ")")=decide (Vbdeaa.Tok.word n=sg ")")∧cQ (.word n) "mark" (.str "(")=decide (Vbdeaa.Tok.word n=sg "(")∧cQ (.word n) "two" (.int 1)=decide (Vbdeaa.Tok.word n=sg "-")∧cQ (.word n) "word" (.str "and")=decide (Vbdeaa.Tok.word n=wd "and")∧cQ (.word n) "word" (.str "or")=decide (Vbdeaa.Tok.word n=wd "or"):=by decide +kernel
  exact this n h
 | sign s =>
  have:∀s∈zV++dY,cQ (.sign s) "word" (.str "then")=decide (Vbdeaa.Tok.sign s=wd "then")∧cQ (.sign s) "word" (.str "else")=decide (Vbdeaa.Tok.sign s=wd "else")∧cQ (.sign s) "mark" (.str ",")=decide (Vbdeaa.Tok.sign s=sg ",")∧cQ (.sign s) "mark" (.str ")")=decide (Vbdeaa.Tok.sign s=sg ")")∧cQ (.sign s) "mark" (.str "(")=decide (Vbdeaa.Tok.sign s=sg "(")∧cQ (.sign s) "two" (.int 1)=decide (Vbdeaa.Tok.sign s=sg "-")∧cQ (.sign s) "word" (.str "and")=decide (Vbdeaa.Tok.sign s=wd "and")∧cQ (.sign s) "word" (.str "or")=decide (Vbdeaa.Tok.sign s=wd "or"):=by decide +kernel
  exact this s (List.mem_append.mpr h)
 | eof=>exact⟨rfl,rfl,rfl,rfl,rfl,rfl,rfl,rfl⟩
 | bad=>exact h.elim
theorem mJ{K:PySem.W.Frag}{H:Hp}{x:TK}{a q:Addr}(h:cO H x a)(F:H q=none)(b:Str)(u:V)(z:(∃c,u=.str c)∨∃c,u=.int c){j:VK}(k:j (.bl (cQ x b u)) (L2.upd H q (.tup [.str b,u]))):N6 K false (.ref a) (.ref q) (L2.upd H q (.tup [.str b,u])) j:=by
 have s:aA H (L2.upd H q (.tup [.str b,u])):=aA.upd F
 obtain⟨v,h1,h2,D⟩:=oF (K:=K) (h.same s)
 refine⟨a,q,tag x,b,v,u,rfl,rfl,cR.of h1,cR.of ak,z,h2,?_⟩
 show j (.bl (decide (tag x=b)&&zT v u)) _
 rw[Ie D b u]
 exact k
theorem Nj{K:PySem.W.Frag}{H:Hp}{x:TK}{a:Addr}(h:cO H x a):∃xs,cR K H a xs∧qY xs 0=some (.str (tag x)):=by
 obtain⟨v,h1,_⟩:=oF (K:=K) h
 exact⟨_,cR.of h1,rfl⟩
noncomputable def Cv(x:TK)(fs:List Fr)(e:Exp)(k:Nat):Option (List Fr×Md):=if x=.eof then(match fs with
 | []=>some ([],.en e k)
 | _=>none)else around x fs e
noncomputable def Jh(C FC PC Ce:Addr):Sp:=fun vs H Q E=>∃(p a:Addr)(M:List Addr)(ts:List TK)(i:Nat)(fs:List Fr)(e:Exp)(k:Nat)(x:TK),vs=[.ref p,.ref a]∧jL C FC PC H p M ts i fs (.en e k)∧cO (off M H) x a∧eV x∧jo fs+Vbdeam.size e≤2000 ∧
 (∀fs' z,Cv x fs e k=some (fs',z)→∀j H',jL C FC PC H' p j ts i fs' z→aA (off M H) (off j H')→Q .non H')∧(Cv x fs e k=none→bz Ce (-6) (off M H) E)
theorem Nk{x:TK}(h:eV x):decide (tag x = "end")=decide (x=.eof):=by
 cases x with
 | sign s =>
  have:∀s∈zV++dY,decide (tag (.sign s) = "end")=false:=by decide +kernel
  exact this s (List.mem_append.mpr h)
 | bad=>exact h.elim
 | _=>rfl
section
theorem Ud:aK ["self","token"] ["self","token"] (aD (aY 9)):=⟨rfl,rfl,rfl,by decide +kernel,rfl,by decide +kernel,by decide +kernel⟩
theorem R0{f C FC PC Ce fN fB fS fI:Addr}{fd dN dB dS dI:FuncData}(F:fc K "go_on_around" "Parser.go_on_around" (aY 9) f fd)(T:iZ K PC)(X:XC P w K mg base "NoExpression" Ce fI dI (-6))
  (FN:Fm K PC "next_of_if" "Parser.next_of_if" (aY 14) fN dN ["self","count"]) (GN:aF P w K mg base (aW P w) 4 fN dN ["self","count"] (Je C FC PC Ce)) (FB:Fm K PC "next_in_brackets" "Parser.next_in_brackets" (aY 15) fB dB ["self"]) (GB:aF P w K mg base (aW P w) 4 fB dB ["self"] (Fz C FC PC Ce (around (sg ","))))
  (FS:Fm K PC "close_brackets" "Parser.close_brackets" (aY 17) fS dS ["self"]) (GS:aF P w K mg base (aW P w) 5 fS dS ["self"] (Fz C FC PC Ce (around (sg ")")))):aF P w K mg base (aW P w) 6 f fd ["self","token"] (Jh C FC PC Ce):=by
 refine dZ F Ud (fun vs H Q E h=>?_) (fun cdv A outer s H vs Q E hr h=>?_)
 ·obtain⟨_,_,_,_,_,_,_,_,_,rfl,_⟩:=h
  rfl
 ·obtain⟨p,a,M,ts,i,fs,e,U,x,rfl,ae,ar,hok,hw,k,kr⟩:=h
  have Y:bH 4 _:=hr.mono (by omega)
  have al:bH 3 _:=hr.mono (by omega)
  have hu:=vP hr
  refine⟨_,ao (aX (aG (dq hu) (pv 1) (bJ (aj bA (aj bA au))) (aL _)) (ao (aN (bc (pv 0) T.cl FN.me GN Y FN.b .nil passes (aj aB au))))
   (ao (aX (aG (dq hu) (pv 1) (bJ (aj bA (aj bA au))) (aL _)) (ao (aN (bc (pv 0) T.cl FN.me GN Y FN.b .nil passes (aj aB au))))
   (ao (aX (aG (dq hu) (pv 1) (bJ (aj bA (aj bA au))) (aL _)) (ao (aN (bQ (pv 0) T.cl FB.me GB Y FB.b .nil passes)))
   (ao (aX (aG (dq hu) (pv 1) (bJ (aj bA (aj bA au))) (aL _)) (ao (aN (bQ (pv 0) T.cl FS.me GS hr FS.b .nil passes)))
   (ao (aX (PW.pt (m_ (aG vH (b7 cY (pv 1) aB (fun _ _=>rfl)) bA (aL _)) (jV (gA (aJ (pv 0) rfl) (fun _=>rfl))))) (ao (bO X.made X.cls X.ok al rfl X.m X.b rfl bF)) aP))))))))),?_⟩
  obtain⟨w1,w2,w3,w4,_⟩:=o5 hok
  obtain⟨dx,lt,lf,ev,k0,tas,fas,ads,D⟩:=id ae
  have at_:∀{H':Hp},aA H H'→jA C FC PC H' p M ts i fs (.en e U) dx lt lf ev k0 tas fas ads∧cO H' x a∧aA (off M H) (off M H'):=fun{H'} s'=>by
   have kp:=rP.of_same D.there s'
   exact⟨D.keep kp,(ar.same (aU _ _)).same s',kp.out⟩
  have j:∀y:TK,y≠.eof→x=y→∀fs e k,Cv x fs e k=around y fs e:=fun y hy z fs e k=>by unfold Cv;rw[z,js hy]
  obtain⟨D0,t0,_⟩:=at_ (aA.refl H)
  refine⟨_,rfl,(by show 2≤sizeLine;decide),fun q1 ac=>mJ t0 ac "word" (.str "then") (.inl ⟨_,rfl⟩) ⟨_,rfl,?_⟩⟩
  have s1:aA H (L2.upd H q1 (.tup [.str "word",.str "then"])):=aA.upd ac
  generalize L2.upd H q1 (.tup [.str "word",.str "then"])=H1 at *
  obtain⟨D1,t1,o1⟩:=at_ s1
  rw[w1]
  by_cases h1:x=wd "then"
  ·rw[i9 h1]
   have S:=j (wd "then") (by decide) h1 fs e U
   exact bh ⟨_,rfl,p,dx,_,rfl,D1.obj,rfl,p,M,ts,i,fs,e,U,0,rfl,by decide,⟨dx,lt,lf,ev,k0,tas,fas,ads,D1⟩,hw,fun fs' m' G Z H' L J=>k fs' m' (by rw[S];exact G) Z H' L (o1.trans J),fun G=>(kr (by rw[S];exact G)).mono o1⟩
  rw[j5 h1]
  refine aR ⟨_,rfl,(by show 2≤sizeLine;decide),fun q2 aa=>mJ t1 aa "word" (.str "else") (.inl ⟨_,rfl⟩) ⟨_,rfl,?_⟩⟩
  have s2:=s1.trans (aA.upd (o:=.tup [.str "word",.str "else"]) aa)
  generalize L2.upd H1 q2 (.tup [.str "word",.str "else"])=H2 at *
  obtain⟨D2,t2,o2⟩:=at_ s2
  rw[w2]
  by_cases h2:x=wd "else"
  ·rw[i9 h2]
   have S:=j (wd "else") (by decide) h2 fs e U
   exact bh ⟨_,rfl,p,dx,_,rfl,D2.obj,rfl,p,M,ts,i,fs,e,U,1,rfl,by decide,⟨dx,lt,lf,ev,k0,tas,fas,ads,D2⟩,hw,fun fs' m' G Z H' L J=>k fs' m' (by rw[S];exact G) Z H' L (o2.trans J),fun G=>(kr (by rw[S];exact G)).mono o2⟩
  rw[j5 h2]
  refine aR ⟨_,rfl,(by show 2≤sizeLine;decide),fun q3 af=>mJ t2 af "mark" (.str ",") (.inl ⟨_,rfl⟩) ⟨_,rfl,?_⟩⟩
  have s3:=s2.trans (aA.upd (o:=.tup [.str "mark",.str ","]) af)
  generalize L2.upd H2 q3 (.tup [.str "mark",.str ","])=H3 at *
  obtain⟨D3,t3,o3⟩:=at_ s3
  rw[w3]
  by_cases h3:x=sg ","
  ·rw[i9 h3]
   have S:=j (sg ",") (by decide) h3 fs e U
   exact bh ⟨_,rfl,p,dx,_,rfl,D3.obj,rfl,p,M,ts,i,fs,e,U,rfl,⟨dx,lt,lf,ev,k0,tas,fas,ads,D3⟩,hw,fun fs' m' G Z H' L J=>k fs' m' (by rw[S];exact G) Z H' L (o3.trans J),fun G=>(kr (by rw[S];exact G)).mono o3⟩
  rw[j5 h3]
  refine aR ⟨_,rfl,(by show 2≤sizeLine;decide),fun q4 ag=>mJ t3 ag "mark" (.str ")") (.inl ⟨_,rfl⟩) ⟨_,rfl,?_⟩⟩
  have s4:=s3.trans (aA.upd (o:=.tup [.str "mark",.str ")"]) ag)
  generalize L2.upd H3 q4 (.tup [.str "mark",.str ")"])=H4 at *
  obtain⟨D4,t4,o4⟩:=at_ s4
  rw[w4]
  by_cases h4:x=sg ")"
  ·rw[i9 h4]
   have S:=j (sg ")") (by decide) h4 fs e U
   exact bh ⟨_,rfl,p,dx,_,rfl,D4.obj,rfl,p,M,ts,i,fs,e,U,rfl,⟨dx,lt,lf,ev,k0,tas,fas,ads,D4⟩,hw,fun fs' m' G Z H' L J=>k fs' m' (by rw[S];exact G) Z H' L (o4.trans J),fun G=>(kr (by rw[S];exact G)).mono o4⟩
  rw[j5 h4]
  obtain⟨xs,ai,ah⟩:=Nj (K:=K) t4
  refine aR ⟨_,rfl,a,_,_,_,rfl,rfl,ai,ah,rfl,_,rfl,?_⟩
  have et:(!decide (V.str (tag x)=V.str "end"))=!decide (x=.eof):=by
   rw[←Nk hok]
   congr 1
   rw[decide_eq_decide]
   exact⟨fun z=>V.str.inj z,fun z=>by rw[z]⟩
  rw[et]
  have b:Cv x fs e U=none→bz Ce (-6) H4 E:=fun h=>(kr h).mono ((aU M H).trans s4)
  by_cases h5:x=.eof
  ·rw[i9 h5]
   refine aR ⟨_,rfl,p,PC,dx,_,_,rfl,D4.obj,T.cl,T.nF,rfl,_,.inl ⟨_,bZ.of D4.fl,rfl⟩,?_⟩
   cases fs with
   | nil =>
    have hf:=D4.frs
    cases hf
    exact aR (k [] (.en e U) (by unfold Cv;rw[j4 h5]) M H4 ⟨dx,lt,lf,ev,k0,tas,_,_,D4⟩ o4)
   | cons fr r =>
    obtain⟨O,fa,rfl⟩:∃O fa,fas=fa::O:=by
     cases D4.frs with
     | cons a b=>exact⟨_,_,rfl⟩
    rw[Aw,show(!(O.reverse.map V.ref++[V.ref fa]).isEmpty)=true by simp]
    exact bh (b (by unfold Cv;rw[j4 h5])).go
  ·rw[j5 h5]
   refine bh (bh (b ?_).go)
   unfold Cv
   rw[js h5]
   unfold PM.around
   rw[js h1,js h2,js h3,js h4]
noncomputable def vR(x:TK)(fs:List Fr)(e:Exp)(k:Nat):Option (List Fr×Md):=match PM.bU x with
 | some j=>PM.nq j fs e k
 | none=>Cv x (cD fs e k).1 (cD fs e k).2.1 (cD fs e k).2.2
noncomputable def Rf(C FC PC Ce:Addr):Sp:=fun vs H Q E=>∃(p a:Addr)(M:List Addr)(ts:List TK)(i:Nat)(fs:List Fr)(e:Exp)(k:Nat)(x:TK),vs=[.ref p,.ref a]∧jL C FC PC H p M ts i fs (.en e k)∧cO (off M H) x a∧eV x∧jo fs+Vbdeam.size e≤2000 ∧
 (∀fs' z,vR x fs e k=some (fs',z)→∀j H',jL C FC PC H' p j ts i fs' z→aA (off M H) (off j H')→Q .non H')∧(vR x fs e k=none→bz Ce (-6) (off M H) E)
theorem Lr{x:TK}(h:eV x):(∀s,x=.sign s→s∈dY→∃o:Bin,PM.bU x=some (.bin o)∧dY.idxOf s=qX o)∧(decide (tag x = "two")=true→∃s,x=.sign s∧s∈dY)∧(decide (tag x = "two")=false→x≠wd "and"→x≠wd "or"→PM.bU x=none):=by
 have f1:∀s∈dY,∃o∈Vbdeaa.BINS,PM.bU (.sign s)=some (.bin o)∧dY.idxOf s=qX o:=by decide +kernel
 have f2:∀s∈zV,decide (tag (.sign s) = "two")=false∧PM.bU (.sign s)=none:=by decide +kernel
 have D:∀s∈dY,decide (tag (.sign s) = "two")=true:=by decide +kernel
 have G:∀n∈Vbdeaa.WORDS,Vbdeaa.Tok.word n=wd "and"∨Vbdeaa.Tok.word n=wd "or"∨PM.bU (.word n)=none:=by decide +kernel
 refine⟨fun s hx F=>?_,fun j=>?_,fun j h1 h2=>?_⟩
 ·subst hx
  obtain⟨o,_,a,b⟩:=f1 s F
  exact⟨o,a,b⟩
 ·cases x with
  | sign s =>
   rcases h with h | h
   ·rw[(f2 s h).1]at j;cases j
   ·exact⟨s,rfl,h⟩
  | _=>cases j
 ·cases x with
  | num q=>exact(PM.tu (fun p J z=>by revert z;revert p;simp[PM.rA,Vbdeaa.wd,Vbdeaa.sg])).1
  | name n=>exact(PM.tu (fun p J z=>by revert z;revert p;simp[PM.rA,Vbdeaa.wd,Vbdeaa.sg])).1
  | word n =>
   rcases G n h with z | z | z
   ·exact absurd z h1
   ·exact absurd z h2
   ·exact z
  | sign s =>
   rcases h with h | h
   ·exact(f2 s h).2
   ·rw[D s h]at j;cases j
  | eof=>decide
  | bad=>exact h.elim
end
section
theorem Vy:aK ["self","token"] ["self","token"] (aD (aY 8)):=⟨rfl,rfl,rfl,by decide +kernel,rfl,by decide +kernel,by decide +kernel⟩
theorem Ur{f C FC PC Ce fJ fE fA:Addr}{fd dJ dE dA:FuncData}(F:fc K "go_on" "Parser.go_on" (aY 8) f fd)(T:iZ K PC)(N:CN K mg)
  (FJ:Fm K PC "join_two" "Parser.join_two" (aY 10) fJ dJ ["self","form","detail"]) (GJ:aF P w K mg base (aW P w) 5 fJ dJ ["self","form","detail"] (Ag C FC PC Ce)) (FE:Fm K PC "end_parts" "Parser.end_parts" (aY 11) fE dE ["self"]) (GE:aF P w K mg base (aW P w) 5 fE dE ["self"] (Aj C FC PC))
  (FA:Fm K PC "go_on_around" "Parser.go_on_around" (aY 9) fA dA ["self","token"]) (GA:aF P w K mg base (aW P w) 6 fA dA ["self","token"] (Jh C FC PC Ce)):aF P w K mg base (aW P w) 7 f fd ["self","token"] (Rf C FC PC Ce):=by
 refine dZ F Vy (fun vs H Q E h=>?_) (fun cdv A outer s H vs Q E hr h=>?_)
 ·obtain⟨_,_,_,_,_,_,_,_,_,rfl,_⟩:=h
  rfl
 ·obtain⟨p,a,M,ts,i,fs,e,kd,x,rfl,U,Z,hok,hw,k,kr⟩:=h
  have S:bH 5 _:=hr.mono (by omega)
  have hu:=vP hr
  refine⟨_,ao (aX (aG cz (b7 cY (pv 1) aB (fun _ _=>rfl)) bA (aL _)) (ao (aN (bc (pv 0) T.cl FJ.me GJ S FJ.b .nil passes (aj (bu rfl N.TWO) (aj (b7 cY (pv 1) aB (fun _ _=>rfl)) au)))))
   (ao (aX (aG (dq hu) (pv 1) (bJ (aj bA (aj bA au))) (aL _)) (ao (aN (bc (pv 0) T.cl FJ.me GJ S FJ.b .nil passes (aj (bu rfl N.AND) (aj aB au)))))
   (ao (aX (aG (dq hu) (pv 1) (bJ (aj bA (aj bA au))) (aL _)) (ao (aN (bc (pv 0) T.cl FJ.me GJ S FJ.b .nil passes (aj (bu rfl N.OR) (aj aB au)))))
    (aq (aN (bQ (pv 0) T.cl FE.me GE S FE.b .nil passes)) (ao (aN (bc (pv 0) T.cl FA.me GA hr FA.b .nil passes (aj (pv 1) au)))))))))),?_⟩
  obtain⟨_,_,_,_,_,_,w1,w2⟩:=o5 hok
  obtain⟨j1,j2,j3⟩:=Lr hok
  obtain⟨dx,lt,lf,ev,k0,tas,fas,ads,D⟩:=id U
  have at_:∀{H':Hp},aA H H'→jA C FC PC H' p M ts i fs (.en e kd) dx lt lf ev k0 tas fas ads∧cO H' x a∧aA (off M H) (off M H')∧cO (off M H') x a:=fun{H'} s'=>by
   have kp:=rP.of_same D.there s'
   exact⟨D.keep kp,(Z.same (aU _ _)).same s',kp.out,Z.same kp.out⟩
  obtain⟨D0,t0,_⟩:=at_ (aA.refl H)
  obtain⟨v,ag,aC,al⟩:=oF (K:=K) t0
  refine⟨_,rfl,a,_,_,_,rfl,rfl,cR.of ag,at_of (j:=0) rfl rfl,rfl,_,rfl,?_⟩
  rw[show decide (V.str (tag x)=V.str "two")=decide (tag x = "two") by rw[decide_eq_decide];exact⟨fun z=>V.str.inj z,fun z=>by rw[z]⟩]
  cases h1:decide (tag x = "two")with
  | true =>
   obtain⟨s0,rfl,af⟩:=j2 h1
   obtain⟨o,ar,ah⟩:=j1 s0 rfl af
   have hv:v=.int (qX o):=by
    have:v=(rB s0).2:=al
    rw[this,Dd af,ah]
   subst hv
   have L:∀fs e k,vR (.sign s0) fs e k=PM.nq (.bin o) fs e k:=fun fs e k=>by unfold vR;rw[ar]
   exact bh ⟨_,rfl,p,dx,_,rfl,D.obj,rfl,_,rfl,a,_,_,_,rfl,rfl,cR.of ag,at_of (j:=1) rfl rfl,p,M,ts,i,fs,e,kd,.bin o,rfl,U,hw,fun fs' m' G=>k fs' m' (by rw[L];exact G),fun G=>kr (by rw[L];exact G)⟩
  | false =>
   refine aR ⟨_,rfl,(by show 2≤sizeLine;decide),fun q1 ae=>mJ t0 ae "word" (.str "and") (.inl ⟨_,rfl⟩) ⟨_,rfl,?_⟩⟩
   have s1:aA H (L2.upd H q1 (.tup [.str "word",.str "and"])):=aA.upd ae
   generalize L2.upd H q1 (.tup [.str "word",.str "and"])=H1 at *
   obtain⟨D1,t1,o1,_⟩:=at_ s1
   rw[w1]
   by_cases h2:x=wd "and"
   ·rw[i9 h2]
    have L:∀fs e k,vR x fs e k=PM.nq .and fs e k:=fun fs e k=>by unfold vR;rw[h2,show PM.bU (wd "and")=some .and by decide]
    exact bh ⟨_,rfl,p,dx,_,rfl,D1.obj,rfl,p,M,ts,i,fs,e,kd,.and,rfl,⟨dx,lt,lf,ev,k0,tas,fas,ads,D1⟩,hw,fun fs' m' G M' H' O J=>k fs' m' (by rw[L];exact G) M' H' O (o1.trans J),fun G=>(kr (by rw[L];exact G)).mono o1⟩
   rw[j5 h2]
   refine aR ⟨_,rfl,(by show 2≤sizeLine;decide),fun q2 aa=>mJ t1 aa "word" (.str "or") (.inl ⟨_,rfl⟩) ⟨_,rfl,?_⟩⟩
   have s2:=s1.trans (aA.upd (o:=.tup [.str "word",.str "or"]) aa)
   generalize L2.upd H1 q2 (.tup [.str "word",.str "or"])=H2 at *
   obtain⟨D2,t2,o2,_⟩:=at_ s2
   rw[w2]
   by_cases h3:x=wd "or"
   ·rw[i9 h3]
    have L:∀fs e k,vR x fs e k=PM.nq .or fs e k:=fun fs e k=>by unfold vR;rw[h3,show PM.bU (wd "or")=some .or by decide]
    exact bh ⟨_,rfl,p,dx,_,rfl,D2.obj,rfl,p,M,ts,i,fs,e,kd,.or,rfl,⟨dx,lt,lf,ev,k0,tas,fas,ads,D2⟩,hw,fun fs' m' G M' H' O J=>k fs' m' (by rw[L];exact G) M' H' O (o2.trans J),fun G=>(kr (by rw[L];exact G)).mono o2⟩
   rw[j5 h3]
   have hj:=j3 h1 h2 h3
   have L:∀fs e k,vR x fs e k=Cv x (cD fs e k).1 (cD fs e k).2.1 (cD fs e k).2.2:=fun fs e k=>by unfold vR;rw[hj]
   refine aR ⟨_,rfl,p,dx,_,rfl,D2.obj,rfl,p,M,ts,i,fs,e,kd,rfl,⟨dx,lt,lf,ev,k0,tas,fas,ads,D2⟩,hw,fun M3 H3 ac Y=>?_⟩
   obtain⟨ai,aE,aS,ay,aI,av,aw,ax,D3⟩:=id ac
   refine⟨_,rfl,p,ai,_,rfl,D3.obj,rfl,_,rfl,p,a,M3,ts,i,_,_,_,x,rfl,ac,Z.same (o2.trans Y),hok,iq Ke hw,fun fs' m' G M' H' O J=>k fs' m' (by rw[L];exact G) M' H' O ((o2.trans Y).trans J),fun G=>(kr (by rw[L];exact G)).mono (o2.trans Y)⟩
end
structure CO (K:PySem.W.Frag) (mg:Str→Option Value):Prop where
 OP:GC K mg "OPENING" (.t [.s "mark",.s "("])
 MI:GC K mg "MINUS" (.t [.s "two",.i 1])
theorem xf{K:PySem.W.Frag}{v:V}(h:jG K (.t [.s "mark",.s "("]) v):∃a,v=.ref a∧∀H:Hp,cR K H a [.str "mark",.str "("]:=by
 obtain⟨a,xs,rfl,j,z⟩:=jG.tup h
 cases z with
 | cons h1 t1 =>
  cases t1 with
  | cons h2 t2 =>
   cases t2
   rw[jG.str h1,jG.str h2]at j
   exact⟨a,rfl,j⟩
theorem Lf{K:PySem.W.Frag}{v:V}(h:jG K (.t [.s "two",.i 1]) v):∃a,v=.ref a∧∀H:Hp,cR K H a [.str "two",.int 1]:=by
 obtain⟨a,xs,rfl,j,z⟩:=jG.tup h
 cases z with
 | cons h1 t1 =>
  cases t1 with
  | cons h2 t2 =>
   cases t2
   rw[jG.str h1,jG.int h2]at j
   exact⟨a,rfl,j⟩
theorem mH{K:PySem.W.Frag}{H:Hp}{x:TK}{a q:Addr}(neg:Bool)(h:cO H x a){b:Str}{u:V}(F:cR K H q [.str b,u])(z:(∃c,u=.str c)∨∃c,u=.int c){j:VK}(k:j (.bl (if neg=true then !cQ x b u else cQ x b u)) H):N6 K neg (.ref a) (.ref q) H j:=by
 obtain⟨v,h1,h2,D⟩:=oF (K:=K) h
 refine⟨a,q,tag x,b,v,u,rfl,rfl,cR.of h1,F,z,h2,?_⟩
 rw[Ie D b u]
 exact k
noncomputable def Dj(C FC PC Ce:Addr):Sp:=fun vs H Q E=>∃(p:Addr)(M:List Addr)(ts:List TK)(i:Nat)(fs:List Fr)(f:Fr)(y:TK),vs=[.ref p,.int (bI f),jB f]∧jL C FC PC H p M ts i fs .beg∧ts[i]?=some y∧eV y∧uC f∧bj f=[]∧fs.length≤3000 ∧
 (∀fs' z,y=sg "("→PM.push fs f=some (fs',z)→∀j H',jL C FC PC H' p j ts (i+1) fs' z→aA (off M H) (off j H')→Q .non H')∧((y≠sg "("∨PM.push fs f=none)→bz Ce (-6) (off M H) E)
theorem jA.tok{C FC PC:Addr}{H:Hp}{p:Addr}{M:List Addr}{ts:List TK}{i:Nat}{fs:List Fr}{md:Md}{dx lt lf:Addr}{ev:V}{k0:Int}{tas fas ads:List Addr}(D:jA C FC PC H p M ts i fs md dx lt lf ev k0 tas fas ads){j:Nat}{y:TK}(h:ts[j]?=some y):∃a,tas[j]?=some a∧cO (off M H) y a:=d_ D.tks h
section
theorem Ug:aK ["self","form","detail"] ["self","form","detail"] (aD (aY 7)):=⟨rfl,rfl,rfl,by decide +kernel,rfl,by decide +kernel,by decide +kernel⟩
theorem R5{f C FC PC Ce fT fU fI:Addr}{fd dT dU dI:FuncData}(F:fc K "begin_brackets" "Parser.begin_brackets" (aY 7) f fd)(T:iZ K PC)(O:CO K mg)(X:XC P w K mg base "NoExpression" Ce fI dI (-6))(S:Fm K PC "take" "Parser.take" (aY 1) fT dT ["self"])
  (FU:Fm K PC "push" "Parser.push" (aY 3) fU dU ["self","form","detail","parts"]) (GU:aF P w K mg base (aW P w) 4 fU dU ["self","form","detail","parts"] (jd C FC PC Ce)):aF P w K mg base (aW P w) 5 f fd ["self","form","detail"] (Dj C FC PC Ce):=by
 have ag:aF P w K mg base (aW P w) 1 fT dT ["self"] (Ad PC):=DR S.F T
 refine dZ F Ug (fun vs H Q E h=>?_) (fun cdv A outer s H vs Q E L h=>?_)
 ·obtain⟨_,_,_,_,_,_,_,rfl,_⟩:=h
  rfl
 ·obtain⟨p,M,ts,i,fs,fr,y,rfl,⟨dx,lt,lf,ev,k0,tas,fas,ads,D⟩,hy,hok,G,aa,ah,k,kr⟩:=h
  have ac:bH 1 _:=L.mono (by omega)
  have ae:bH 3 _:=L.mono (by omega)
  have hu:=vP L
  refine⟨_,aq (aX (aG (Gp hu) (bQ (pv 0) T.cl S.me ag ac S.b .nil passes) (Gn rfl O.OP) (aL _)) (ao (bO X.made X.cls X.ok ae rfl X.m X.b rfl bF)) aP)
   (ao (aN (bc (pv 0) T.cl FU.me GU L FU.b .nil passes (aj (pv 1) (aj (pv 2) (aj (bT au) au)))))),?_⟩
  obtain⟨a,ha,af⟩:=D.tok hy
  refine⟨_,rfl,p,dx,_,rfl,D.obj,rfl,p,dx,lt,lf,a,i,_,ev,k0,tas,rfl,D.obj,aU _ _ _ _ D.tl,ha,fun v hv=>?_⟩
  obtain⟨D1,z⟩:=D.set (i':=i+1) D.md
  obtain⟨oa,rfl,Y⟩:=xf hv
  have t1:cO (L2.upd H p (.ins PC dx (ig lt (i+1) lf (nest fs) ev k0))) y a:=by
   have:cO (off M (L2.upd H p (.ins PC dx (ig lt (i+1) lf (nest fs) ev k0)))) y a:=by rw[z];exact af
   exact this.same (aU _ _)
  obtain⟨_,_,_,_,w5,_⟩:=o5 hok
  refine mH true t1 (Y _) (.inl ⟨_,rfl⟩) ⟨_,rfl,?_⟩
  rw[w5]
  have sm:aA (off M H) (L2.upd H p (.ins PC dx (ig lt (i+1) lf (nest fs) ev k0))):=by rw[←z];exact aU _ _
  by_cases j:y=sg "("
  ·rw[i9 j]
   refine aR ⟨_,rfl,p,dx,_,rfl,D1.obj,rfl,_,rfl,_,rfl,(by show 0≤sizeLine;decide),fun lp U=>?_⟩
   refine⟨p,lp,M,ts,i+1,fs,.beg,fr,[],_,rfl,⟨dx,lt,lf,ev,k0,tas,fas,ads,D1⟩,U,rfl,by rw[aa];exact .nil,G,ah,fun hn M2 H2 Z J=>?_,fun hn=>?_⟩
   ·rw[z]at J
    exact k _ _ j (by unfold PM.push;rw[js (by omega)]) M2 H2 Z J
   ·rw[z]
    exact kr (.inr (by unfold PM.push;rw[j4 hn]))
  ·rw[j5 j]
   exact bh ((kr (.inl j)).mono sm).go
end
end SB
end
section
namespace SB
open PySem PySem.Spec PyProof.Rows L2 XL
open Vbdeaa (Text Exp Exps Un Bin Ins wd sg text)
open PM (Fr Jn Hd Md nest cD fH around)
variable {P:Program} {w:World} {K:PySem.W.Frag} {mg:Str→Option Value} {base:Heap}
theorem Az{fs:List Fr}{f:Fr}(h:nest fs+f.around≤32):PM.push fs f=some (f::fs,.beg):=by unfold PM.push;rw[js (by omega)]
theorem A_{fs:List Fr}{f:Fr}(h:32<nest fs+f.around):PM.push fs f=none:=by unfold PM.push;rw[j4 h]
noncomputable def Eu(y:TK)(fs:List Fr)(f:Fr):Option (Nat×List Fr×Md):=if y=sg "(" then(PM.push fs f).map fun z=>(1,z)else none
noncomputable def Pa(n:Text)(y:TK)(fs:List Fr):Option (Nat×List Fr×Md):=if y=sg "(" then(PM.push fs (.lst (.call n) [])).map fun z=>(1,z)else some (0,fs,.en (.name n) 9)
noncomputable def wdX(w:Text)(y:TK)(fs:List Fr):Option (Nat×List Fr×Md) :=
 if w=text "if"∧PM.top fs=0 then(PM.push fs .if0).map fun z=>(0,z)
 else if w=text "not"∧PM.top fs≤3 then(PM.push fs (.un .not)).map fun z=>(0,z)
 else match Vbdeaa.oneOf (.word w)with
  | some o=>Eu y fs (.un o)
  | none=>if w=text "min" then Eu y fs (.lst (.best false) [])else if w=text "max" then Eu y fs (.lst (.best true) [])else none
noncomputable def QR(x y:TK)(fs:List Fr):Option (Nat×List Fr×Md):=match x with
 | .num q=>some (0,fs,.en (.num q) 9)
 | .name n=>Pa n y fs
 | .word w=>wdX w y fs
 | x=>if x=sg "(" then(PM.push fs .grp).map fun z=>(0,z)else if x=sg "-" then(PM.push fs (.un .neg)).map fun z=>(0,z)else none
noncomputable def Wo(C FC PC Ce:Addr)(v:V)(g:TK→List Fr→Option (Nat×List Fr×Md)):Sp:=fun vs H Q E=>∃(p:Addr)(M:List Addr)(ts:List TK)(i:Nat)(fs:List Fr)(y:TK),vs=[.ref p,v]∧jL C FC PC H p M ts i fs .beg∧ts[i]?=some y∧eV y∧fs.length≤3000 ∧
 (∀d fs' z,g y fs=some (d,fs',z)→∀j H',jL C FC PC H' p j ts (i+d) fs' z→aA (off M H) (off j H')→Q .non H')∧(g y fs=none→bz Ce (-6) (off M H) E)
noncomputable def Jl(C FC PC Ce:Addr):Sp:=fun vs H Q E=>∃n:Text,Wo C FC PC Ce (.str (bD n)) (Pa n) vs H Q E
noncomputable def Jk(C FC PC Ce:Addr):Sp:=fun vs H Q E=>∃n:Text,n∈Vbdeaa.WORDS∧Wo C FC PC Ce (.str (bD n)) (wdX n) vs H Q E
theorem jA.tops{C FC PC:Addr}{H:Hp}{p:Addr}{M:List Addr}{ts:List TK}{i:Nat}{fs:List Fr}{md:Md}{dx lt lf:Addr}{ev:V}{k0:Int}{tas fas ads:List Addr}(D:jA C FC PC H p M ts i fs md dx lt lf ev k0 tas fas ads):(fs=[]∧fas=[])∨∃fr r fa z lp j,fs=fr::r∧fas=fa::z∧H fa=some (.ins FC j (Sw fr lp)):=by
 cases D.frs with
 | nil=>exact .inl ⟨rfl,rfl⟩
 | cons a b=>obtain⟨j,as,h1,_⟩:=a;exact .inr ⟨_,_,_,_,_,j,rfl,rfl,h1⟩
section
theorem Uh:aK ["self","name"] ["self","name"] (aD (aY 5)):=⟨rfl,rfl,rfl,by decide +kernel,rfl,by decide +kernel,by decide +kernel⟩
theorem R6{f C FC PC Ce fW fU:Addr}{fd dW dU:FuncData}(F:fc K "begin_name" "Parser.begin_name" (aY 5) f fd)(T:iZ K PC)(O:CO K mg)(ae:GC K mg "CALL" (.i 8))(af:GC K mg "NAME" (.i 1))
  (FU:Fm K PC "push" "Parser.push" (aY 3) fU dU ["self","form","detail","parts"]) (GU:aF P w K mg base (aW P w) 4 fU dU ["self","form","detail","parts"] (jd C FC PC Ce)) (FW:Fm K PC "end_with" "Parser.end_with" (aY 13) fW dW ["self","form","detail","parts"]) (GW:aF P w K mg base (aW P w) 3 fW dW ["self","form","detail","parts"] (t8 C FC PC)):aF P w K mg base (aW P w) 5 f fd ["self","name"] (Jl C FC PC Ce):=by
 refine dZ F Uh (fun vs H Q E h=>?_) (fun cdv A outer s H vs Q E hr h=>?_)
 ·obtain⟨_,_,_,_,_,_,_,rfl,_⟩:=h
  rfl
 ·obtain⟨n,p,M,ts,i,fs,y,rfl,z,hy,hok,ag,k,kr⟩:=h
  obtain⟨dx,lt,lf,ev,k0,tas,fas,ads,D⟩:=id z
  have Z:bH 3 _:=hr.mono (by omega)
  have hu:=vP hr
  refine⟨_,ao (aX (aG (dq hu) (b7 di (aJ (pv 0) rfl) (aJ (pv 0) rfl) (fun _ _=>rfl)) (Gn rfl O.OP) (aL _))
   (aq (cH (pv 0) aB gD) (ao (aN (bc (pv 0) T.cl FU.me GU hr FU.b .nil passes (aj (bu rfl ae) (aj (pv 1) (aj (bT au) au)))))))
   (ao (aN (bc (pv 0) T.cl FW.me GW Z FW.b .nil passes (aj (bu rfl af) (aj (pv 1) (aj (bT au) au))))))),?_⟩
  obtain⟨a,ha,aa⟩:=D.tok hy
  refine⟨_,rfl,p,PC,dx,_,_,rfl,D.obj,T.cl,T.nT,rfl,_,rfl,p,PC,dx,_,_,rfl,D.obj,T.cl,T.nA,rfl,lt,_,_,V.ref a,rfl,rfl,bZ.of (aU _ _ _ _ D.tl),jx (by rw[iE,ha];rfl),fun v hv=>?_⟩
  obtain⟨oa,rfl,U⟩:=xf hv
  obtain⟨_,_,_,_,w5,_⟩:=o5 hok
  refine mH false (aa.same (aU _ _)) (U _) (.inl ⟨_,rfl⟩) ⟨_,rfl,?_⟩
  rw[w5]
  by_cases j:y=sg "("
  ·rw[i9 j]
   obtain⟨D1,G⟩:=D.set (i':=i+1) D.md
   refine bh ⟨_,rfl,p,PC,dx,_,_,rfl,D.obj,T.cl,T.nA,rfl,_,_,rfl,rfl,dx,_,D.obj,(by show 6<1000;decide),?_⟩
   refine⟨_,rfl,p,dx,_,rfl,D1.obj,rfl,_,rfl,(by show 0≤sizeLine;decide),fun lp S=>?_⟩
   refine⟨p,lp,M,ts,i+1,fs,.beg,.lst (.call n) [],[],_,rfl,⟨dx,lt,lf,ev,k0,tas,fas,ads,D1⟩,S,rfl,.nil,rfl,ag,fun hn M2 H2 Y J=>?_,fun hn=>?_⟩
   ·rw[G]at J
    exact k 1 (.lst (.call n) []::fs) .beg (by unfold Pa;rw[j4 j,Az hn];rfl) M2 H2 Y J
   ·rw[G]
    exact kr (by unfold Pa;rw[j4 j,A_ hn];rfl)
  ·rw[j5 j]
   refine aR ⟨_,rfl,p,dx,_,rfl,D.obj,rfl,_,rfl,(by show 0≤sizeLine;decide),fun l hl=>?_⟩
   have kp:=rP.of_same D.there (aA.upd (o:=.lst []) hl)
   refine⟨p,M,ts,i,fs,.beg,.name n,.str (bD n),l,[],rfl,⟨dx,lt,lf,ev,k0,tas,fas,ads,D.keep kp⟩,rfl,lN D.there hl,.nil,by decide,fun H' ac L=>?_⟩
   exact k 0 fs (.en (.name n) 9) (by unfold Pa;rw[js j]) M H' ac (kp.out.trans L)
structure WP (K:PySem.W.Frag) (mg:Str→Option Value) (a1 a2:Addr) (x1 x2:List V):Prop where
 ON:GT K mg "ONE_WORDS" (vm.map TV.s) a1 x1
 PK:GT K mg "PICK_WORDS" (rm.map TV.s) a2 x2
noncomputable def fZ(w:Text):Nat×Nat:=if w=text "if" then(0,0)else if w=text "not" then(1,0)else match Vbdeaa.oneOf (.word w)with
 | some o=>(2,wu o)
 | none=>if w=text "min" then(3,0)else if w=text "max" then(3,1)else(4,0)
theorem HR:∀w∈Vbdeaa.WORDS,decide (bD w = "if")=decide (w=text "if")∧decide (bD w = "not")=decide (w=text "not")∧(inV (.str (bD w)) (vm.map V.str)=decide ((fZ w).1=1∨(fZ w).1=2))∧(inV (.str (bD w)) (rm.map V.str)=decide ((fZ w).1=3)):=by decide +kernel
theorem QZ:∀w∈Vbdeaa.WORDS,∀o∈Vbdeaa.UNS,Vbdeaa.oneOf (.word w)=some o→(vm.map V.str)[wu o]?=some (V.str (bD w))∧(∀m∈List.range (wu o),(vm.map V.str)[m]?≠some (V.str (bD w)))∧(fZ w).1=2∧w≠text "not"∧w≠text "if":=by decide +kernel
theorem Ng:∀w∈Vbdeaa.WORDS,Vbdeaa.oneOf (.word w)=none→(fZ w).1≠2∧((fZ w).1=3↔(w=text "min"∨w=text "max"))∧((fZ w).1=1↔w=text "not"):=by decide +kernel
end
theorem SJ{y:TK}{fs fs':List Fr}{f:Fr}{j:Md}(z:y=sg "(")(h:PM.push fs f=some (fs',j)):Eu y fs f=some (1,fs',j):=by unfold Eu;rw[j4 z,h];rfl
theorem U5{y:TK}{fs:List Fr}{f:Fr}(h:y≠sg "("∨PM.push fs f=none):Eu y fs f=none:=by
 unfold Eu
 by_cases j:y=sg "("
 ·rcases h with h | h
  ·exact absurd j h
  ·rw[j4 j,h];rfl
 ·rw[js j]
theorem Nh(o:Un):o∈Vbdeaa.UNS:=by cases o<;>decide
section
theorem QC:aK ["self","word","place"] ["self","word"] (aD (aY 6)):=⟨rfl,rfl,rfl,by decide +kernel,rfl,by decide +kernel,by decide +kernel⟩
theorem R4{f C FC PC Ce fU fB fK fI a1 a2:Addr}{x1 x2:List V}{fd dU dB dK dI:FuncData}(F:fc K "begin_word" "Parser.begin_word" (aY 6) f fd)(T:iZ K PC)(TF:gf K FC)(N:CN K mg)(G:CG K mg)(aT:GC K mg "PICK" (.i 7))(W:WP K mg a1 a2 x1 x2)(X:XC P w K mg base "NoExpression" Ce fI dI (-6))
  (FU:Fm K PC "push" "Parser.push" (aY 3) fU dU ["self","form","detail","parts"]) (GU:aF P w K mg base (aW P w) 4 fU dU ["self","form","detail","parts"] (jd C FC PC Ce)) (FB:Fm K PC "begin_brackets" "Parser.begin_brackets" (aY 7) fB dB ["self","form","detail"]) (GB:aF P w K mg base (aW P w) 5 fB dB ["self","form","detail"] (Dj C FC PC Ce))
  (FK:Fn K mg "kind_of" qD fK dK ["form","detail"]):aF P w K mg base (aW P w) 6 f fd ["self","word"] (Jk C FC PC Ce):=by
 have GK:aF P w K mg base (aW P w) 1 fK dK ["form","detail"] t7:=sV FK N
 have e1:x1=vm.map V.str:=mF W.ON.pr
 have e2:x2=rm.map V.str:=mF W.PK.pr
 subst e1 e2
 refine dZ F QC (fun vs H Q E h=>?_) (fun cdv A outer s H vs Q E hr h=>?_)
 ·obtain⟨_,_,_,_,_,_,_,_,rfl,_⟩:=h
  rfl
 ·obtain⟨n,hn,p,M,ts,i,fs,y,rfl,Z,hy,hok,aC,k,kr⟩:=h
  obtain⟨dx,lt,lf,ev,k0,tas,fas,ads,D⟩:=id Z
  have av:bH 4 _:=hr.mono (by omega)
  have a0:bH 3 _:=hr.mono (by omega)
  have aS:bH 1 _:=hr.mono (by omega)
  obtain⟨F1,F2,F3,F4⟩:=HR n hn
  have sd:∀z:Str,decide (V.str (bD n)=V.str z)=decide (bD n=z):=fun z=>by rw[decide_eq_decide];exact⟨fun h=>V.str.inj h,fun h=>by rw[h]⟩
  have b:wdX n y fs=none→bz Ce (-6) H E:=fun h=>(kr h).mono (aU M H)
  have tail:∃tr,zQ (eU (aW P w) P w K mg base ["self","word","place"] "Parser.begin_word" (aD (aY 6)) f cdv A outer s H E) ((eO (aY 6)).drop 1) tr∧tr { nx:=fun _ H'=>Q .non H',rt:=Q } [some (.ref p),some (.str (bD n)),some (.int (PM.top fs:Nat))] H:=by
   refine⟨_,ao (aX (PW.pt (jW (aG cz (pv 1) bA (aL _)) (gR (aG cz (pv 2) aB (aL _))))) (ao (aN (bc (pv 0) T.cl FU.me GU av FU.b .nil passes (aj (bu rfl N.IF) (aj aB (aj (bT au) au))))))
    (ao (aX (PW.pt (jW (aG cz (pv 1) bA (aL _)) (gR (aG nj (pv 2) (a_ GK aS rfl FK.m FK.F.kp FK.b .nil passes (aj (bu rfl N.ONE) (aj (bu rfl G.NT) au))) (aL _))))) (ao (aN (bc (pv 0) T.cl FU.me GU av FU.b .nil passes (aj (bu rfl N.ONE) (aj (bu rfl G.NT) (aj (bT au) au))))))
    (ao (aX (PW.pt (jW (aG vH (pv 1) bA (aL _)) (gR (aG iQ (pv 1) (b_ (v:=.ref a1) rfl W.ON.m rfl) rfl)))) (ao (aN (bc (pv 0) T.cl FB.me GB hr FB.b .nil passes (aj (bu rfl N.ONE) (aj (gC PySem.F.plainAttrs_tuple PySem.F.slot_tuple_index PySem.F.type_tuple_index vK (b_ (v:=.ref a1) rfl W.ON.m rfl) (aj (pv 1) au)) au)))))
    (ao (aX (aG iQ (pv 1) (b_ (v:=.ref a2) rfl W.PK.m rfl) rfl) (ao (aN (bc (pv 0) T.cl FB.me GB hr FB.b .nil passes (aj (bu rfl aT) (aj (gC PySem.F.plainAttrs_tuple PySem.F.slot_tuple_index PySem.F.type_tuple_index vK (b_ (v:=.ref a2) rfl W.PK.m rfl) (aj (pv 1) au)) au)))))
     (ao (bO X.made X.cls X.ok a0 rfl X.m X.b rfl bF))))))))),?_⟩
   have U:∀(fr:Fr)(lp:Addr),uC fr→bj fr=[]→wdX n y fs=(PM.push fs fr).map (fun z=>(0,z))→H lp=none→jd C FC PC Ce [.ref p,.int (bI fr),jB fr,.ref lp] (L2.upd H lp (.lst [])) (fun _ H'=>Q .non H') E:=fun fr lp S ai hx Y=>by
    refine⟨p,lp,M,ts,i,fs,.beg,fr,[],H,rfl,Z,Y,rfl,by rw[ai];exact .nil,S,aC,fun al M2 H2 ag ar=>?_,fun al=>kr ?_⟩
    ·exact k 0 (fr::fs) .beg (by rw[hx,Az al];rfl) M2 H2 ag ar
    ·rw[hx,A_ al];rfl
   have ae:∀(fr:Fr),uC fr→bj fr=[]→wdX n y fs=Eu y fs fr→Dj C FC PC Ce [.ref p,.int (bI fr),jB fr] H (fun _ H'=>Q .non H') E:=fun fr S ai hx=>by
    refine⟨p,M,ts,i,fs,fr,y,rfl,Z,hy,hok,S,ai,aC,fun fs' m' a4 a3 M2 H2 ag ar=>?_,fun aE=>kr (by rw[hx];exact U5 aE)⟩
    exact k 1 fs' m' (by rw[hx];exact SJ a4 a3) M2 H2 ag ar
   have af:(if false=true then !inV (V.str (bD n)) (vm.map V.str)else inV (V.str (bD n)) (vm.map V.str))=decide ((fZ n).1=1∨(fZ n).1=2):=F3
   have aa:(if false=true then !inV (V.str (bD n)) (rm.map V.str)else inV (V.str (bD n)) (rm.map V.str))=decide ((fZ n).1=3):=F4
   refine⟨_,rfl,rfl,_,rfl,?_⟩
   rw[sd,F1]
   by_cases L:n=text "if"
   ·have wc:fZ n=(0,0):=by rw[L];decide
    rw[i9 L]
    refine bh ⟨_,rfl,rfl,_,rfl,?_⟩
    by_cases J:PM.top fs=0
    ·rw[J]
     exact bh ⟨_,rfl,p,dx,_,rfl,D.obj,rfl,(by show 0≤sizeLine;decide),fun lp Y=>U .if0 lp trivial rfl (by unfold wdX;rw[j4 ⟨L,J⟩]) Y⟩
    ·rw[j5 (fun z=>J (by have:=V.int.inj z;omega))]
     have nn:n≠text "not":=by rw[L];decide
     refine aR ⟨_,rfl,rfl,_,rfl,?_⟩
     rw[sd,F2,j5 nn]
     refine aR (aR ⟨_,rfl,rfl,_,rfl,?_⟩)
     rw[sd,F2,j5 nn]
     refine bh ⟨_,rfl,a1,_,rfl,.inr (W.ON.sq _),rfl,rfl,_,rfl,?_⟩
     rw[af,wc]
     refine aR ⟨_,rfl,a2,_,rfl,.inr (W.PK.sq _),rfl,rfl,_,rfl,?_⟩
     rw[aa,wc]
     refine aR (b ?_).go
     unfold wdX
     rw[js (fun z=>J z.2),js (fun z=>nn z.1),L,show Vbdeaa.oneOf (.word (text "if"))=none by decide]
     simp only
     rw[js (by decide),js (by decide)]
   ·rw[j5 L]
    refine aR (aR ⟨_,rfl,rfl,_,rfl,?_⟩)
    rw[sd,F2]
    by_cases j:n=text "not"
    ·have wc:fZ n=(1,0):=by rw[j];decide
     rw[i9 j]
     refine bh ⟨_,rfl,_,_,_,rfl,.one rfl,_,_,rfl,rfl,_,rfl,?_⟩
     by_cases J:PM.top fs≤3
     ·rw[i9 (by omega)]
      exact bh ⟨_,rfl,p,dx,_,rfl,D.obj,rfl,(by show 0≤sizeLine;decide),fun lp Y=>U (.un .not) lp trivial rfl (by unfold wdX;rw[js (fun z=>L z.1),j4 ⟨j,J⟩]) Y⟩
     ·rw[j5 (by omega)]
      refine aR ⟨_,rfl,rfl,_,rfl,?_⟩
      rw[sd,F2,i9 j]
      refine aR (aR ⟨_,rfl,a2,_,rfl,.inr (W.PK.sq _),rfl,rfl,_,rfl,?_⟩)
      rw[aa,wc]
      refine aR (b ?_).go
      unfold wdX
      rw[js (fun z=>L z.1),js (fun z=>J z.2),j,show Vbdeaa.oneOf (.word (text "not"))=none by decide]
      simp only
      rw[js (by decide),js (by decide)]
    ·rw[j5 j]
     refine aR (aR ⟨_,rfl,rfl,_,rfl,?_⟩)
     rw[sd,F2,j5 j]
     refine bh ⟨_,rfl,a1,_,rfl,.inr (W.ON.sq _),rfl,rfl,_,rfl,?_⟩
     rw[af]
     cases ho:Vbdeaa.oneOf (.word n)with
     | some o =>
      obtain⟨g1,g2,g3,_⟩:=QZ n hn o (Nh o) ho
      rw[i9 (.inr g3)]
      refine bh ⟨_,rfl,p,dx,_,rfl,D.obj,rfl,.inr (.inl ⟨rfl,W.ON.cl⟩),_,rfl,a1,_,_,wu o,V.str (bD n),rfl,rfl,W.ON.sq _,rfl,rfl,g1,?_,fun m z hm hz=>?_,?_⟩
      ·show(bD n==bD n)=true
       exact beq_self_eq_true _
      ·have a5:=g2 m (ka.mpr hm)
       have ay:=j' hz
       obtain⟨q,_,rfl⟩:=List.mem_map.mp ay
       show(q==bD n)=false
       exact beq_eq_false_iff_ne.mpr fun zz=>a5 (by rw[hz,zz])
      ·exact ae (.un o) trivial rfl (by unfold wdX;rw[js (fun z=>L z.1),js (fun z=>j z.1),ho])
     | none =>
      obtain⟨g1,g2,g3⟩:=Ng n hn ho
      rw[j5 (fun z=>z.elim (fun z=>j (g3.mp z)) g1)]
      refine aR ⟨_,rfl,a2,_,rfl,.inr (W.PK.sq _),rfl,rfl,_,rfl,?_⟩
      rw[aa]
      have hx:wdX n y fs=if n=text "min" then Eu y fs (.lst (.best false) [])else if n=text "max" then Eu y fs (.lst (.best true) [])else none:=by
       unfold wdX
       rw[js (fun z=>L z.1),js (fun z=>j z.1),ho]
      by_cases O:n=text "min"∨n=text "max"
      ·rw[i9 (g2.mpr O)]
       rcases O with O | O
       ·have et:bD n = "min":=by rw[O];decide +kernel
        refine bh ⟨_,rfl,p,dx,_,rfl,D.obj,rfl,.inr (.inl ⟨rfl,W.PK.cl⟩),_,rfl,a2,_,_,0,V.str "min",rfl,rfl,W.PK.sq _,rfl,rfl,rfl,?_,fun m z hm hz=>absurd hm (Nat.not_lt_zero _),?_⟩
        ·show(("min" : Str)==bD n)=true
         rw[et];exact beq_self_eq_true _
        ·exact ae (.lst (.best false) []) rfl rfl (by rw[hx,j4 O])
       ·have et:bD n = "max":=by rw[O];decide +kernel
        refine bh ⟨_,rfl,p,dx,_,rfl,D.obj,rfl,.inr (.inl ⟨rfl,W.PK.cl⟩),_,rfl,a2,_,_,1,V.str "max",rfl,rfl,W.PK.sq _,rfl,rfl,rfl,?_,fun m z hm hz=>?_,?_⟩
        ·show(("max" : Str)==bD n)=true
         rw[et];exact beq_self_eq_true _
        ·have:m=0:=by omega
         subst this
         cases hz
         show(("min" : Str)==bD n)=false
         rw[et];decide +kernel
        ·exact ae (.lst (.best true) []) rfl rfl (by rw[hx,js (by rw[O];decide),j4 O])
      ·rw[j5 (fun z=>O (g2.mp z))]
       refine aR (b ?_).go
       rw[hx,js (fun z=>O (.inl z)),js (fun z=>O (.inr z))]
  obtain⟨tr,ah,ac⟩:=tail
  refine⟨_,aq (bw (i:=2) QC.nd rfl (Or.inl rfl) (yP (gA (aJ (pv 0) rfl) (fun _=>rfl)) (aJ (b7 di (aJ (pv 0) rfl) (eN cW aB) (fun _ _=>rfl)) rfl) aB)) ah,?_⟩
  refine⟨_,rfl,p,PC,dx,_,_,rfl,D.obj,T.cl,T.nF,rfl,_,.inl ⟨_,bZ.of D.fl,rfl⟩,?_⟩
  rcases D.tops with⟨rfl,rfl⟩ | ⟨fr,r,fa,ax,lp,a6,rfl,rfl,aI⟩
  ·exact aR ac
  ·have aw:=D.fl
   rw[Aw]at aw ⊢
   rw[show(!(ax.reverse.map V.ref++[V.ref fa]).isEmpty)=true by simp]
   exact bh ⟨_,rfl,p,PC,dx,_,_,rfl,D.obj,T.cl,T.nF,rfl,_,rfl,lf,_,_,_,rfl,rfl,bZ.of aw,lC,fa,FC,a6,_,_,rfl,aI,TF.cl,TF.nL,rfl,ac⟩
end
noncomputable def Rg(C FC PC Ce:Addr):Sp:=fun vs H Q E=>∃(p a:Addr)(M:List Addr)(ts:List TK)(i:Nat)(fs:List Fr)(x y:TK),vs=[.ref p,.ref a]∧jL C FC PC H p M ts i fs .beg∧cO (off M H) x a∧eV x∧(x=.eof∨(ts[i]?=some y∧eV y))∧fs.length≤3000 ∧
 (∀d fs' z,QR x y fs=some (d,fs',z)→∀j H',jL C FC PC H' p j ts (i+d) fs' z→aA (off M H) (off j H')→Q .non H')∧(QR x y fs=none→bz Ce (-6) (off M H) E)
theorem Ii{s:Text}(h:s∈zV∨s∈dY):decide (tag (.sign s) = "number")=false∧decide (tag (.sign s) = "name")=false∧decide (tag (.sign s) = "word")=false:=by
 have:∀s∈zV++dY,decide (tag (.sign s) = "number")=false∧decide (tag (.sign s) = "name")=false∧decide (tag (.sign s) = "word")=false:=by decide +kernel
 exact this s (List.mem_append.mpr h)
section
theorem Vz:aK ["self","token"] ["self","token"] (aD (aY 4)):=⟨rfl,rfl,rfl,by decide +kernel,rfl,by decide +kernel,by decide +kernel⟩
theorem Us{f C FC PC Ce fU fW fN fD fI:Addr}{fd dU dW dN dD dI:FuncData}(F:fc K "begin" "Parser.begin" (aY 4) f fd)(T:iZ K PC)(N:CN K mg)(G:CG K mg)(O:CO K mg)(aS:GC K mg "NUMBER" (.i 0))(X:XC P w K mg base "NoExpression" Ce fI dI (-6))
  (FU:Fm K PC "push" "Parser.push" (aY 3) fU dU ["self","form","detail","parts"]) (GU:aF P w K mg base (aW P w) 4 fU dU ["self","form","detail","parts"] (jd C FC PC Ce)) (FW:Fm K PC "end_with" "Parser.end_with" (aY 13) fW dW ["self","form","detail","parts"]) (GW:aF P w K mg base (aW P w) 3 fW dW ["self","form","detail","parts"] (t8 C FC PC))
  (FN:Fm K PC "begin_name" "Parser.begin_name" (aY 5) fN dN ["self","name"]) (GN:aF P w K mg base (aW P w) 5 fN dN ["self","name"] (Jl C FC PC Ce)) (FD:Fm K PC "begin_word" "Parser.begin_word" (aY 6) fD dD ["self","word"]) (GD:aF P w K mg base (aW P w) 6 fD dD ["self","word"] (Jk C FC PC Ce)):aF P w K mg base (aW P w) 7 f fd ["self","token"] (Rg C FC PC Ce):=by
 refine dZ F Vz (fun vs H Q E h=>?_) (fun cdv A outer s H vs Q E hr h=>?_)
 ·obtain⟨_,_,_,_,_,_,_,_,rfl,_⟩:=h
  rfl
 ·obtain⟨p,a,M,ts,i,fs,x,y,rfl,L,av,hok,Y,ag,k,kr⟩:=h
  obtain⟨dx,lt,lf,ev,k0,tas,fas,ads,D⟩:=id L
  have ar:bH 3 _:=hr.mono (by omega)
  have ai:bH 4 _:=hr.mono (by omega)
  have ay:bH 5 _:=hr.mono (by omega)
  have hu:=vP hr
  refine⟨_,ao (aX (aG cz (b7 cY (pv 1) aB (fun _ _=>rfl)) bA (aL _)) (ao (aN (bc (pv 0) T.cl FW.me GW ar FW.b .nil passes (aj (bu rfl aS) (aj (b7 cY (pv 1) aB (fun _ _=>rfl)) (aj (bT au) au))))))
   (ao (aX (aG cz (b7 cY (pv 1) aB (fun _ _=>rfl)) bA (aL _)) (ao (aN (bc (pv 0) T.cl FN.me GN ay FN.b .nil passes (aj (b7 cY (pv 1) aB (fun _ _=>rfl)) au))))
   (ao (aX (aG cz (b7 cY (pv 1) aB (fun _ _=>rfl)) bA (aL _)) (ao (aN (bc (pv 0) T.cl FD.me GD hr FD.b .nil passes (aj (b7 cY (pv 1) aB (fun _ _=>rfl)) au))))
   (ao (aX (aG (dq hu) (pv 1) (Gn rfl O.OP) (aL _)) (ao (aN (bc (pv 0) T.cl FU.me GU ai FU.b .nil passes (aj (bu rfl G.GR) (aj aB (aj (bT au) au))))))
   (ao (aX (aG (dq hu) (pv 1) (Gn rfl O.MI) (aL _)) (ao (aN (bc (pv 0) T.cl FU.me GU ai FU.b .nil passes (aj (bu rfl N.ONE) (aj (bu rfl G.NE) (aj (bT au) au))))))
    (ao (bO X.made X.cls X.ok ar rfl X.m X.b rfl bF))))))))))),?_⟩
  have t0:cO H x a:=av.same (aU _ _)
  obtain⟨v,J,a3,aw⟩:=oF (K:=K) t0
  have sd:∀z:Str,decide (V.str (tag x)=V.str z)=decide (tag x=z):=fun z=>by rw[decide_eq_decide];exact⟨fun h=>V.str.inj h,fun h=>by rw[h]⟩
  have S:∀(fr:Fr)(lp:Addr),uC fr→bj fr=[]→QR x y fs=(PM.push fs fr).map (fun z=>(0,z))→H lp=none→jd C FC PC Ce [.ref p,.int (bI fr),jB fr,.ref lp] (L2.upd H lp (.lst [])) (fun _ H'=>Q .non H') E:=fun fr lp al aI hx U=>by
   refine⟨p,lp,M,ts,i,fs,.beg,fr,[],H,rfl,L,U,rfl,by rw[aI];exact .nil,al,ag,fun af M2 H2 aE a0=>?_,fun af=>kr ?_⟩
   ·exact k 0 (fr::fs) .beg (by rw[hx,Az af];rfl) M2 H2 aE a0
   ·rw[hx,A_ af];rfl
  have rest:decide (tag x = "number")=false→decide (tag x = "name")=false→decide (tag x = "word")=false→QR x y fs=(if x=sg "(" then(PM.push fs .grp).map fun z=>(0,z)else if x=sg "-" then(PM.push fs (.un .neg)).map fun z=>(0,z)else none)→True:=fun _ _ _ _=>trivial
  refine⟨_,rfl,a,_,_,_,rfl,rfl,cR.of J,at_of (j:=0) rfl rfl,rfl,_,rfl,?_⟩
  rw[sd]
  cases x with
  | num q =>
   obtain⟨r,h1,h2⟩:=av
   have ax:=aU _ _ _ _ h1
   rw[J]at ax
   cases ax
   refine bh ⟨_,rfl,p,dx,_,rfl,D.obj,rfl,_,rfl,a,_,_,_,rfl,rfl,cR.of J,at_of (j:=1) rfl rfl,(by show 0≤sizeLine;decide),fun l hl=>?_⟩
   have kp:=rP.of_same D.there (aA.upd (o:=.lst []) hl)
   exact⟨p,M,ts,i,fs,.beg,.num q,.ref r,l,[],rfl,⟨dx,lt,lf,ev,k0,tas,fas,ads,D.keep kp⟩,⟨r,rfl,kp.out _ _ h2⟩,lN D.there hl,.nil,by decide,fun H' aT aC=>k 0 fs (.en (.num q) 9) rfl M H' aT (kp.out.trans aC)⟩
  | name n =>
   have hv:v=.str (bD n):=aw
   subst hv
   obtain⟨hy,aa⟩:=Y.resolve_left (by simp)
   refine aR ⟨_,rfl,a,_,_,_,rfl,rfl,cR.of J,at_of (j:=0) rfl rfl,rfl,_,rfl,bh ?_⟩
   exact⟨_,rfl,p,dx,_,rfl,D.obj,rfl,_,rfl,a,_,_,_,rfl,rfl,cR.of J,at_of (j:=1) rfl rfl,n,p,M,ts,i,fs,y,rfl,L,hy,aa,ag,k,kr⟩
  | word n =>
   have hv:v=.str (bD n):=aw
   subst hv
   obtain⟨hy,aa⟩:=Y.resolve_left (by simp)
   refine aR ⟨_,rfl,a,_,_,_,rfl,rfl,cR.of J,at_of (j:=0) rfl rfl,rfl,_,rfl,aR ⟨_,rfl,a,_,_,_,rfl,rfl,cR.of J,at_of (j:=0) rfl rfl,rfl,_,rfl,bh ?_⟩⟩
   exact⟨_,rfl,p,dx,_,rfl,D.obj,rfl,_,rfl,a,_,_,_,rfl,rfl,cR.of J,at_of (j:=1) rfl rfl,n,hok,p,M,ts,i,fs,y,rfl,L,hy,aa,ag,k,kr⟩
  | sign s =>
   obtain⟨g1,g2,g3⟩:=Ii hok
   obtain⟨_,_,_,_,w5,w6,_⟩:=o5 hok
   have hb:QR (.sign s) y fs=if Vbdeaa.Tok.sign s=sg "(" then(PM.push fs .grp).map (fun z=>(0,z))else if Vbdeaa.Tok.sign s=sg "-" then(PM.push fs (.un .neg)).map (fun z=>(0,z))else none:=rfl
   rw[g1]
   refine aR ⟨_,rfl,a,_,_,_,rfl,rfl,cR.of J,at_of (j:=0) rfl rfl,rfl,_,rfl,?_⟩
   rw[sd,g2]
   refine aR ⟨_,rfl,a,_,_,_,rfl,rfl,cR.of J,at_of (j:=0) rfl rfl,rfl,_,rfl,?_⟩
   rw[sd,g3]
   refine aR ⟨_,rfl,fun ov ac=>?_⟩
   obtain⟨oa,rfl,Z⟩:=xf ac
   refine mH false t0 (Z _) (.inl ⟨_,rfl⟩) ⟨_,rfl,?_⟩
   rw[w5]
   by_cases h1:Vbdeaa.Tok.sign s=sg "("
   ·rw[i9 h1]
    exact bh ⟨_,rfl,p,dx,_,rfl,D.obj,rfl,(by show 0≤sizeLine;decide),fun lp U=>S .grp lp trivial rfl (by rw[hb,j4 h1]) U⟩
   ·rw[j5 h1]
    refine aR ⟨_,rfl,fun mv ae=>?_⟩
    obtain⟨ma,rfl,ah⟩:=Lf ae
    refine mH false t0 (ah _) (.inr ⟨_,rfl⟩) ⟨_,rfl,?_⟩
    rw[w6]
    by_cases h2:Vbdeaa.Tok.sign s=sg "-"
    ·rw[i9 h2]
     exact bh ⟨_,rfl,p,dx,_,rfl,D.obj,rfl,(by show 0≤sizeLine;decide),fun lp U=>S (.un .neg) lp trivial rfl (by rw[hb,js h1,j4 h2]) U⟩
    ·rw[j5 h2]
     exact aR ((kr (by rw[hb,js h1,js h2])).mono (aU M H)).go
  | eof =>
   refine aR ⟨_,rfl,a,_,_,_,rfl,rfl,cR.of J,at_of (j:=0) rfl rfl,rfl,_,rfl,aR ⟨_,rfl,a,_,_,_,rfl,rfl,cR.of J,at_of (j:=0) rfl rfl,rfl,_,rfl,aR ⟨_,rfl,fun ov ac=>?_⟩⟩⟩
   obtain⟨oa,rfl,Z⟩:=xf ac
   refine mH false t0 (Z _) (.inl ⟨_,rfl⟩) ⟨_,rfl,aR ⟨_,rfl,fun mv ae=>?_⟩⟩
   obtain⟨ma,rfl,ah⟩:=Lf ae
   exact mH false t0 (ah _) (.inr ⟨_,rfl⟩) ⟨_,rfl,aR ((kr rfl).mono (aU M H)).go⟩
  | bad=>exact hok.elim
end
noncomputable def Th(x y:TK)(fs:List Fr):Md→Option (Nat×List Fr×Md)
 | .beg=>QR x y fs
 | .en e k=>(vR x fs e k).map fun z=>(0,z)
 | _=>none
noncomputable def Wt:Md→Nat
 | .en e _=>Vbdeam.size e
 | _=>0
noncomputable def IW(C FC PC Ce:Addr):Sp:=fun vs H Q E=>∃(p:Addr)(M:List Addr)(ts:List TK)(i:Nat)(fs:List Fr)(md:Md)(x y:TK),vs=[.ref p]∧jL C FC PC H p M ts i fs md∧ts[i]?=some x∧eV x∧(x=.eof∨(ts[i+1]?=some y∧eV y))∧jo fs+Wt md≤2000 ∧
 (∀d fs' z,Th x y fs md=some (d,fs',z)→∀j H',jL C FC PC H' p j ts (i+1+d) fs' z→aA (off M H) (off j H')→Q .non H')∧(Th x y fs md=none→bz Ce (-6) (off M H) E)
section
theorem T7:aK ["self"] ["self"] (aD (aY 2)):=⟨rfl,rfl,rfl,by decide +kernel,rfl,by decide +kernel,by decide +kernel⟩
theorem RN{f C FC PC Ce fT fB fG:Addr}{fd dT dB dG:FuncData}(F:fc K "step" "Parser.step" (aY 2) f fd)(T:iZ K PC)(U:Fm K PC "take" "Parser.take" (aY 1) fT dT ["self"])
  (FB:Fm K PC "begin" "Parser.begin" (aY 4) fB dB ["self","token"]) (GB:aF P w K mg base (aW P w) 7 fB dB ["self","token"] (Rg C FC PC Ce)) (FG:Fm K PC "go_on" "Parser.go_on" (aY 8) fG dG ["self","token"]) (aa:aF P w K mg base (aW P w) 7 fG dG ["self","token"] (Rf C FC PC Ce)):aF P w K mg base (aW P w) 8 f fd ["self"] (IW C FC PC Ce):=by
 have Z:aF P w K mg base (aW P w) 1 fT dT ["self"] (Ad PC):=DR U.F T
 refine dZ F T7 (fun vs H Q E h=>?_) (fun cdv A outer s H vs Q E hr h=>?_)
 ·obtain⟨_,_,_,_,_,_,_,_,rfl,_⟩:=h
  rfl
 ·obtain⟨p,M,ts,i,fs,md,x,y,rfl,⟨dx,lt,lf,ev,k0,tas,fas,ads,D⟩,hx,hok,S,hw,k,kr⟩:=h
  have Y:bH 1 _:=hr.mono (by omega)
  refine⟨_,ao (aX (Ba (RD (aJ (pv 0) rfl))) (ao (aN (bc (pv 0) T.cl FB.me GB hr FB.b .nil passes (aj (bQ (pv 0) T.cl U.me Z Y U.b .nil passes) au))))
   (ao (aN (bc (pv 0) T.cl FG.me aa hr FG.b .nil passes (aj (bQ (pv 0) T.cl U.me Z Y U.b .nil passes) au))))),?_⟩
  obtain⟨a,ha,ac⟩:=D.tok hx
  obtain⟨D1,z⟩:=D.set (i':=i+1) D.md
  have G:cO (off M (L2.upd H p (.ins PC dx (ig lt (i+1) lf (nest fs) ev k0)))) x a:=by rw[z];exact ac
  refine⟨_,rfl,p,PC,dx,_,_,rfl,D.obj,T.cl,T.nE,rfl,_,rfl,?_⟩
  have ae:fs.length≤3000:=by have:=Ed fs;omega
  cases md with
  | beg =>
   have L:ev=.non:=D.md
   subst L
   exact bh ⟨_,rfl,p,dx,_,rfl,D.obj,rfl,_,rfl,p,dx,_,rfl,D.obj,rfl,p,dx,lt,lf,a,i,_,_,k0,tas,rfl,D.obj,aU _ _ _ _ D.tl,ha,p,a,M,ts,i+1,fs,x,y,rfl,⟨dx,lt,lf,_,k0,tas,fas,ads,D1⟩,G,hok,S,ae,fun d fs' m' J M' H' O j=>k d fs' m' J M' H' O (by rw[z]at j;exact j),fun J=>by rw[z];exact kr J⟩
  | en e kd =>
   obtain⟨⟨b,L,ag⟩,af⟩:=D.md
   subst L
   exact aR ⟨_,rfl,p,dx,_,rfl,D.obj,rfl,_,rfl,p,dx,_,rfl,D.obj,rfl,p,dx,lt,lf,a,i,_,_,k0,tas,rfl,D.obj,aU _ _ _ _ D.tl,ha,p,a,M,ts,i+1,fs,e,kd,x,rfl,⟨dx,lt,lf,_,k0,tas,fas,ads,D1⟩,G,hok,hw,fun fs' m' J M' H' O j=>k 0 fs' m' (by show(vR x fs e kd).map _=_;rw[J];rfl) M' H' O (by rw[z]at j;exact j),fun J=>by rw[z];exact kr (by show(vR x fs e kd).map _=_;rw[J];rfl)⟩
  | nm n=>exact(D.md).elim
  | br g=>exact(D.md).elim
end
noncomputable def Goes(o:Option (Nat×List Fr×Md))(y:TK)(r:List TK)(g:Option Exp):Prop:=match o with
 | none=>g=none
 | some (d,fs,m)=>(d=0∧g=PM.run (y::r) fs m)∨(d=1∧y≠.eof∧g=PM.run r fs m)
theorem dH{x:TK}{t:List TK}{fs:List Fr}{m:Md}(h:x≠.eof):PM.run (x::t) fs m=match PM.step x fs m with
  | none=>none
  | some s=>PM.run t s.1 s.2:=by
 rw[PM.run,js h]<;>cases PM.step x fs m<;>rfl
theorem zq{y:TK}{r:List TK}{o:Option (List Fr×Md)}:Goes (o.map fun z=>(0,z)) y r (match o with
  | none=>none
  | some s=>PM.run (y::r) s.1 s.2):=by
 cases o with
 | none=>exact rfl
 | some z=>exact .inl ⟨rfl,rfl⟩
theorem BZ{y:TK}{r:List TK}{fs:List Fr}{f:Fr}:Goes (Eu y fs f) y r (PM.run (y::r) fs (.br f)):=by
 unfold Eu
 by_cases j:y=sg "("
 ·subst j
  rw[j4 rfl,dH (by decide),show PM.step (sg "(") fs (.br f)=PM.push fs f by show(if sg "("=sg "(" then PM.push fs f else none)=_;exact j4 rfl]
  cases PM.push fs f with
  | none=>exact rfl
  | some z=>exact .inr ⟨rfl,by decide,rfl⟩
 ·rw[js j]
  show PM.run (y::r) fs (.br f)=none
  by_cases D:y=.eof
  ·rw[PM.run,j4 D];rfl
  ·rw[dH D,show PM.step y fs (.br f)=none from js j]
theorem R9{n:Text}{y:TK}{r:List TK}{fs:List Fr}:Goes (Pa n y fs) y r (PM.run (y::r) fs (.nm n)):=by
 unfold Pa
 by_cases j:y=sg "("
 ·subst j
  rw[j4 rfl,dH (by decide),show PM.step (sg "(") fs (.nm n)=PM.push fs (.lst (.call n) []) by show(if sg "("=sg "(" then PM.push fs (.lst (.call n) [])else PM.goOn (sg "(") fs (.name n) 9)=_;exact j4 rfl]
  cases PM.push fs (.lst (.call n) [])with
  | none=>exact rfl
  | some z=>exact .inr ⟨rfl,by decide,rfl⟩
 ·rw[js j]
  refine .inl ⟨rfl,?_⟩
  by_cases D:y=.eof
  ·subst D
   rfl
  ·rw[dH D,dH D,show PM.step y fs (.nm n)=PM.step y fs (.en (.name n) 9)from js j]
theorem QX{w:Text}{y:TK}{r:List TK}{fs:List Fr}:Goes (wdX w y fs) y r (PM.run (.word w::y::r) fs .beg):=by
 rw[dH (by simp),show PM.step (.word w) fs .beg=PM.du w fs from rfl]
 unfold wdX PM.du
 by_cases h1:w=text "if"∧PM.top fs=0
 ·rw[j4 h1,j4 h1];exact zq
 ·rw[js h1,js h1]
  by_cases h2:w=text "not"∧PM.top fs≤3
  ·rw[j4 h2,j4 h2];exact zq
  ·rw[js h2,js h2]
   cases Vbdeaa.oneOf (.word w)with
   | some o=>exact BZ
   | none =>
    simp only
    by_cases j:w=text "min"
    ·rw[j4 j,j4 j];exact BZ
    ·rw[js j,js j]
     by_cases z:w=text "max"
     ·rw[j4 z,j4 z];exact BZ
     ·rw[js z,js z];exact rfl
theorem SN{x y:TK}{r:List TK}{fs:List Fr}(hx:x≠.eof)(j:x≠.bad):Goes (QR x y fs) y r (PM.run (x::y::r) fs .beg):=by
 cases x with
 | num q=>exact .inl ⟨rfl,rfl⟩
 | name n=>exact R9
 | word w=>exact QX
 | eof=>exact absurd rfl hx
 | bad=>exact absurd rfl j
 | sign s =>
  rw[dH hx]
  show Goes (if Vbdeaa.Tok.sign s=sg "(" then(PM.push fs .grp).map fun z=>(0,z)else if Vbdeaa.Tok.sign s=sg "-" then(PM.push fs (.un .neg)).map fun z=>(0,z)else none) y r (match(if Vbdeaa.Tok.sign s=sg "(" then PM.push fs .grp else if Vbdeaa.Tok.sign s=sg "-" then PM.push fs (.un .neg)else none)with
   | none=>none
   | some s=>PM.run (y::r) s.1 s.2)
  by_cases h1:Vbdeaa.Tok.sign s=sg "("
  ·rw[j4 h1,j4 h1];exact zq
  ·rw[js h1,js h1]
   by_cases h2:Vbdeaa.Tok.sign s=sg "-"
   ·rw[j4 h2,j4 h2];exact zq
   ·rw[js h2,js h2];exact rfl
theorem go_same{x:TK}{fs:List Fr}{e:Exp}{k:Nat}(hx:x≠.eof):vR x fs e k=PM.goOn x fs e k:=by
 unfold vR PM.goOn
 cases PM.bU x with
 | some j=>rfl
 | none =>
  simp only
  unfold Cv
  rw[js hx]
theorem Q8{x y:TK}{r:List TK}{fs:List Fr}{m:Md}(hx:x≠.eof)(D:x≠.bad)(j:m=.beg∨∃e k,m=.en e k):Goes (Th x y fs m) y r (PM.run (x::y::r) fs m):=by
 rcases j with rfl | ⟨e,k,rfl⟩
 ·exact SN hx D
 ·rw[dH hx]
  show Goes ((vR x fs e k).map fun z=>(0,z)) y r (match PM.goOn x fs e k with
   | none=>none
   | some s=>PM.run (y::r) s.1 s.2)
  rw[go_same hx]
  exact zq
theorem Q9{y:TK}{fs:List Fr}{m:Md}(j:m=.beg∨∃e k,m=.en e k):match Th .eof y fs m with
  | none=>PM.run [.eof] fs m=none
  | some (d,fs',D)=>d=0∧∃e k,D=.en e k∧fs'=[]∧PM.run [.eof] fs m=some e:=by
 rcases j with rfl | ⟨e,k,rfl⟩
 ·rfl
 ·have e1:Th .eof y fs (.en e k)=(Cv .eof (cD fs e k).1 (cD fs e k).2.1 (cD fs e k).2.2).map fun z=>(0,z):=by
   show(vR .eof fs e k).map _=_
   unfold vR
   rw[PM.Ls]
  have e2:PM.run [.eof] fs (.en e k)=match(cD fs e k).1 with
   | []=>some (cD fs e k).2.1
   | _=>none:=rfl
  rw[e1,e2]
  unfold Cv
  rw[j4 rfl]
  cases(cD fs e k).1 with
  | nil=>exact⟨rfl,_,_,rfl,rfl,rfl⟩
  | cons a b=>exact rfl
noncomputable def M6:Fr→Prop
 | .lst (.call n) _=>Hw n
 | _=>True
noncomputable def CQ(f:Fr):Prop:=(∀x∈bj f,gM x)∧M6 f
noncomputable def WN:Md→Prop
 | .en e _=>gM e
 | _=>True
structure Inv (n:Nat) (fs:List Fr) (m:Md):Prop where
 w:jo fs+Wt m≤n
 f:∀f∈fs,CQ f
 m:WN m
theorem xQ{f:Fr}{e:Exp}(z:fY f)(F:CQ f)(G:gM e):gM (f.close e).1:=by
 by_cases D:f=.grp
 ·subst D;exact G
 ·obtain⟨_,_,J,_⟩:=uQ (e:=e) z D (fun _=>none)
  refine .mk ?_ ?_
  ·cases f with
   | lst h l=>cases h with
    | best g=>exact trivial
    | call n=>exact F.2
   | jn j a=>cases j<;>exact trivial
   | grp=>exact absurd rfl D
   | if0=>exact z.elim
   | if1 c=>exact z.elim
   | un o=>exact trivial
   | if2 c a=>exact trivial
  ·rw[J]
   intro x hx
   rcases List.mem_append.mp hx with hx | hx
   ·exact F.1 x hx
   ·rw[List.mem_singleton.mp hx];exact G
theorem Kf:∀{fs:List Fr}{e:Exp}{c:Nat},(∀f∈fs,CQ f)→gM e→(∀f∈(cD fs e c).1,CQ f)∧gM (cD fs e c).2.1
 | [],e,c,h,j=>⟨h,j⟩
 | f::r,e,c,h,j=>by
  rw[cD]
  by_cases z:f.ends=true
  ·rw[j4 z]
   exact Kf (fun g D=>h g (by simp[D])) (xQ (jq z) (h f (by simp)) j)
  ·rw[js z]
   exact⟨h,j⟩
theorem Kd{k:Nat}:∀{fs:List Fr}{e:Exp}{c:Nat},(∀f∈fs,CQ f)→gM e→(∀f∈(fH k fs e c).1,CQ f)∧gM (fH k fs e c).2.1
 | [],e,c,h,j=>⟨h,j⟩
 | f::r,e,c,h,j=>by
  rw[fH]
  by_cases z:k<f.place
  ·rw[j4 z]
   exact Kd (fun g D=>h g (by simp[D])) (xQ (gW z) (h f (by simp)) j)
  ·rw[js z]
   exact⟨h,j⟩
noncomputable def qy(n:Nat)(o:Option (Nat×List Fr×Md)):Prop:=∀d fs m,o=some (d,fs,m)→Inv (n+d) fs m
theorem zj{n:Nat}{fs:List Fr}{f:Fr}(hw:jo fs+u5 f≤n)(h:∀g∈fs,CQ g)(D:CQ f){d:Nat}:qy n ((PM.push fs f).map fun z=>(d,z)):=by
 intro d' fs' F e
 unfold PM.push at e
 split at e
 ·cases e
 ·cases e
  exact⟨by show u5 f+jo fs+0≤_;omega,fun g j=>by
   rcases hU.mp j with rfl | j
   ·exact D
   ·exact h g j,trivial⟩
theorem lY{n:Nat}{fs:List Fr}{f:Fr}(hw:jo fs≤n)(h:∀g∈fs,CQ g)(j:bj f=[])(D:M6 f){d:Nat}:qy (n+1) ((PM.push fs f).map fun z=>(d,z)):=by
 refine zj ?_ h ⟨fun x hx=>(by rw[j]at hx;cases hx),D⟩
 unfold u5
 rw[j]
 show jo fs+1≤_
 omega
theorem bY{n:Nat}:qy n none:=fun _ _ _ e=>by cases e
theorem Bx{n:Nat}{y:TK}{fs:List Fr}{f:Fr}(hw:jo fs≤n)(h:∀g∈fs,CQ g)(z:bj f=[])(j:M6 f):qy (n+1) (Eu y fs f):=by
 unfold Eu
 split
 ·exact lY hw h z j
 ·exact bY
theorem Qq{q:Vbdeaa.Q}:gM (.num q):=.mk trivial fun x hx=>by cases hx
theorem Mv{n:Text}(h:Hw n):gM (.name n):=.mk h fun x hx=>by cases hx
theorem Ss{n:Nat}{x y:TK}{fs:List Fr}(hx:eV x)(hw:jo fs≤n)(h:∀g∈fs,CQ g):qy (n+1) (QR x y fs):=by
 cases x with
 | num q=>intro d fs' j e;cases e;exact⟨by show jo fs+1≤_;omega,h,Qq⟩
 | name t =>
  show qy (n+1) (Pa t y fs)
  unfold Pa
  split
  ·exact lY hw h rfl (by exact hx)
  ·intro d fs' j e;cases e;exact⟨by show jo fs+1≤_;omega,h,Mv hx⟩
 | word w =>
  show qy (n+1) (wdX w y fs)
  unfold wdX
  split
  ·exact lY hw h rfl (by exact trivial)
  ·split
   ·exact lY hw h rfl (by exact trivial)
   ·split
    ·exact Bx hw h rfl (by exact trivial)
    ·split
     ·exact Bx hw h rfl (by exact trivial)
     ·split
      ·exact Bx hw h rfl (by exact trivial)
      ·exact bY
 | eof=>exact bY
 | bad=>exact bY
 | sign s =>
  show qy (n+1) (if Vbdeaa.Tok.sign s=sg "(" then(PM.push fs .grp).map fun z=>(0,z)else if Vbdeaa.Tok.sign s=sg "-" then(PM.push fs (.un .neg)).map fun z=>(0,z)else none)
  split
  ·exact lY hw h rfl (by exact trivial)
  ·split
   ·exact lY hw h rfl (by exact trivial)
   ·exact bY
theorem BJ{n:Nat}{x:TK}{fs:List Fr}{e:Exp}(hw:jo fs+Vbdeam.size e≤n)(h:∀g∈fs,CQ g)(D:gM e):qy (n+1) ((around x fs e).map fun z=>(0,z)):=by
 have tl:∀{g:Fr}{r:List Fr},(∀f∈g::r,CQ f)→∀{g':Fr},CQ g'→∀f∈g'::r,CQ f:=fun a _ b f F=>by
  rcases hU.mp F with rfl | F
  ·exact b
  ·exact a f (by simp[F])
 unfold around
 split
 ·cases fs with
  | nil=>exact bY
  | cons f r=>cases f with
   | if0 =>
    intro d fs' G q
    cases q
    refine⟨?_,tl h ⟨fun x hx=>by rw[List.mem_singleton.mp hx];exact D,trivial⟩,trivial⟩
    rw[fV]at hw ⊢
    show u5 (.if1 e)+jo r+0≤_
    simp only[u5,bj,i6,List.map_nil,List.sum_cons,List.sum_nil]at hw ⊢
    omega
   | _=>exact bY
 ·split
  ·cases fs with
   | nil=>exact bY
   | cons f r=>cases f with
    | if1 c =>
     intro d fs' G q
     cases q
     refine⟨?_,tl h ⟨fun x hx=>?_,trivial⟩,trivial⟩
     ·rw[fV]at hw ⊢
      show u5 (.if2 c e)+jo r+0≤_
      simp only[u5,bj,i6,List.map_nil,List.sum_cons,List.sum_nil]at hw ⊢
      omega
     ·rcases hU.mp hx with rfl | hx
      ·exact(h (.if1 _) b').1 _ (List.mem_singleton.mpr rfl)
      ·rw[List.mem_singleton.mp hx];exact D
    | _=>exact bY
  ·split
   ·cases fs with
    | nil=>exact bY
    | cons f r=>cases f with
     | lst j l =>
      intro d fs' G q
      cases q
      refine⟨?_,tl h ⟨fun x hx=>?_,(by have q:=(h (.lst j l) (by simp)).2;cases j<;>exact q)⟩,trivial⟩
      ·rw[fV]at hw ⊢
       show u5 (.lst j (l++[e]))+jo r+0≤_
       simp only[u5,bj,i6,List.map_nil,List.sum_cons,List.sum_nil,kb,List.sum_append]at hw ⊢
       omega
      ·rcases List.mem_append.mp hx with hx | hx
       ·exact(h (.lst j l) (by simp)).1 _ hx
       ·rw[List.mem_singleton.mp hx];exact D
     | _=>exact bY
   ·split
    ·cases fs with
     | nil=>exact bY
     | cons f r =>
      simp only
      split
      ·rename_i L
       have J:fY f:=by
        cases f with
        | if0=>cases L
        | if1 c=>cases L
        | _=>exact trivial
       intro d fs' G q
       cases q
       refine⟨?_,fun g O=>h g (by simp[O]),xQ J (h f (by simp)) D⟩
       have:=gF (e:=e) J
       rw[fV]at hw
       show jo r+Vbdeam.size (f.close e).1≤_
       omega
      ·exact bY
    ·exact bY
theorem IK{n:Nat}{x y:TK}{fs:List Fr}{m:Md}(hx:eV x)(h:Inv n fs m):qy (n+1) (Th x y fs m):=by
 cases m with
 | beg=>exact Ss hx h.w h.f
 | nm t=>exact bY
 | br f=>exact bY
 | en e k =>
  show qy (n+1) ((vR x fs e k).map fun z=>(0,z))
  have hw:jo fs+Vbdeam.size e≤n:=h.w
  unfold vR
  cases PM.bU x with
  | some j =>
   show qy (n+1) ((PM.nq j fs e k).map fun z=>(0,z))
   unfold PM.nq
   split
   ·exact bY
   ·have w:=Ru (k:=j.kind) (fs:=fs) (e:=e) (c:=k)
    obtain⟨p1,p2⟩:=Kd (k:=j.kind) (c:=k) h.f h.m
    refine zj ?_ p1 ⟨fun z hz=>(by rw[List.mem_singleton.mp hz];exact p2),by exact trivial⟩
    show _+((Vbdeam.size _+0)+1)≤_
    omega
  | none =>
   have w:=Ke (fs:=fs) (e:=e) (c:=k)
   obtain⟨p1,p2⟩:=Kf (c:=k) h.f h.m
   show qy (n+1) ((Cv x (cD fs e k).1 (cD fs e k).2.1 (cD fs e k).2.2).map fun z=>(0,z))
   unfold Cv
   split
   ·revert w p1 p2
    generalize cD fs e k=z
    obtain⟨F,D,k'⟩:=z
    intro w p1 p2
    cases F with
    | nil =>
     intro d fs' G q
     cases q
     exact⟨by have w:0+Vbdeam.size D≤_:=w;show 0+Vbdeam.size D≤_;omega,p1,p2⟩
    | cons a b=>exact bY
   ·exact BJ (by omega) p1 p2
theorem Dq:∀(l:List TK)(fs:List Fr)(m:Md),(∀x∈l,x≠.eof)→PM.run (l++[.bad]) fs m=none
 | [],fs,m,_=>by show PM.run [.bad] fs m=none;rw[dH (by simp),PM.zL]
 | x::l,fs,m,h=>by
  show PM.run (x::(l++[.bad])) fs m=none
  rw[dH (h x (by simp))]
  cases PM.step x fs m with
  | none=>rfl
  | some s=>exact Dq l s.1 s.2 fun y j=>h y (by simp[j])
theorem Dt{t:Text}{l:List TK}{x:TK}(h:gK t=l++[x])(hx:x=.eof∨x=.bad):match Vbdeaa.readExp t with
  | .error _=>PM.run (gK t) [] .beg=none
  | .ok e=>PM.run (gK t) [] .beg=some e:=by
 have q:PM.Q (Vbdeaa.tokensOf t):=by
  have e:=congrArg List.getLast? h
  unfold gK at e
  rw[List.getLast?_map,List.getLast?_append]at e
  cases D:(Vbdeaa.tokensOf t).getLast? with
  | none=>rw[D]at e;cases e
  | some z =>
   rw[D]at e
   obtain⟨a,b⟩:=z
   have e:some a=some x:=e
   cases e
   exact⟨_,b,D,hx⟩
 have r:=PM.J7 q
 unfold Vbdeaa.readExp gK
 rw[r,show Vbdeaa.NEST=32 from rfl]
 cases Vbdeaa.exp (Vbdeaa.enough (Vbdeaa.tokensOf t)) 32 0 (Vbdeaa.tokensOf t)with
 | error p=>exact rfl
 | ok z =>
  obtain⟨e,s⟩:=z
  simp only
  by_cases j:Vbdeaa.peek s=.eof
  ·rw[j4 j,j4 j]
  ·rw[js j,js j]
theorem pW{t:Text}{l:List TK}{x:TK}(h:gK t=l++[x])(hx:x=.eof∨x=.bad)(j:PM.run (gK t) [] .beg=none):∃p,Vbdeaa.readExp t=.error p:=by
 have:=Dt h hx
 cases z:Vbdeaa.readExp t with
 | error p=>exact⟨p,rfl⟩
 | ok e=>rw[z]at this;have this:PM.run (gK t) [] .beg=some e:=this;rw[j]at this;cases this
theorem Gg{t:Text}{l:List TK}{x:TK}{e:Exp}(h:gK t=l++[x])(hx:x=.eof∨x=.bad)(j:PM.run (gK t) [] .beg=some e):Vbdeaa.readExp t=.ok e:=by
 have:=Dt h hx
 cases z:Vbdeaa.readExp t with
 | error p=>rw[z]at this;have this:PM.run (gK t) [] .beg=none:=this;rw[j]at this;cases this
 | ok D=>rw[z]at this;have this:PM.run (gK t) [] .beg=some D:=this;rw[j]at this;cases this;rfl
theorem KC{C FC PC:Addr}{H:Hp}{p:Addr}{M:List Addr}{ts:List TK}{i:Nat}{fs:List Fr}{md:Md}(h:jL C FC PC H p M ts i fs md):md=.beg∨∃e k,md=.en e k:=by
 obtain⟨_,_,_,_,_,_,_,_,D⟩:=h
 cases md with
 | beg=>exact .inl rfl
 | en e k=>exact .inr ⟨e,k,rfl⟩
 | nm n=>exact(D.md).elim
 | br g=>exact(D.md).elim
noncomputable def Ai(K:PySem.W.Frag)(C Ce:Addr):Sp:=fun vs H Q E=>∃(l:Addr)(t:Text),vs=[.ref l]∧bZ K H l (vI t)∧t.length≤2000 ∧
 (∀e,Vbdeaa.readExp t=.ok e→gM e→Vbdeam.size e≤2001→∀a H',aA H H'→cF C H' e a→Q (.ref a) H')∧(∀p,Vbdeaa.readExp t=.error p→bz Ce (-6) H E)
noncomputable abbrev yJ:Stmt:=top 75
section
theorem JF:aK ["text","parser"] ["text"] (aD yJ):=⟨rfl,rfl,rfl,by decide +kernel,rfl,by decide +kernel,by decide +kernel⟩
theorem OD{f fT fI fS C FC PC Ce:Addr}{fd dT dI dS:FuncData}(F:Fn K mg "expression_of" yJ f fd ["text"])(T:iZ K PC)(be:Mk K PC fI)(GI:aF P w K mg base (aW P w) 1 fI dI ["self","tokens"] (Ja PC))(BI:Binds K dI ["self","tokens"] [])(aS:mg "Parser"=some (.ref PC))(ar:mg "len"=none)
  (FT:Fn K mg "tokens_of" yG fT dT ["text"]) (bq:aF P w K mg base (aW P w) 6 fT dT ["text"] (Ab K Ce)) (FS:Fm K PC "step" "Parser.step" (aY 2) fS dS ["self"]) (aC:aF P w K mg base (aW P w) 8 fS dS ["self"] (IW C FC PC Ce)):aF P w K mg base (aW P w) 9 f fd ["text"] (Ai K C Ce):=by
 refine dZ F.F JF (fun vs H Q E h=>?_) (fun cdv A outer s H vs Q E hr h=>?_)
 ·obtain⟨_,_,rfl,_⟩:=h
  rfl
 ·obtain⟨l,t,rfl,hl,bo,k,kr⟩:=h
  have a0:bH 2 _:=hr.mono (by omega)
  have a7:bH 6 _:=hr.mono (by omega)
  refine⟨_,aq (bw (i:=1) JF.nd rfl (Or.inl rfl) (sS be GI a0 rfl aS BI .nil passes (aj (a_ bq a7 rfl FT.m FT.F.kp FT.b .nil passes (aj (pv 0) au)) au)))
   (aq (gB rC (aG DQ (aJ (pv 1) rfl) (bW bG (by rfl) ar (by decide +kernel) (aj (aJ (pv 1) rfl) au)) (aL _)) (ao (aN (bQ (pv 1) T.cl FS.me aC hr FS.b .nil passes))))
   (ao (aV (aJ (pv 1) rfl)))),?_⟩
  have bb:∀tks,gK t=tks++[.bad]→(∀x∈tks,x≠.eof)→bz Ce (-6) H E:=fun tks hT ac=>by
   obtain⟨p,hp⟩:=pW hT (.inr rfl) (by rw[hT];exact Dq _ _ _ ac)
   exact kr p hp
  refine⟨_,rfl,l,t,rfl,hl,bo,fun tks hT bv al L tas H1 hL s1 a5 bp=>?_,fun tks hT ac=>bb tks hT ac⟩
  intro x dx hx ba ac
  refine⟨x,dx,L,rfl,ak,fun lf U ai H2 sx ay aE=>⟨rfl,?_⟩⟩
  have bn:lf≠dx:=fun z=>by rw[az ai,z,ak]at U;cases U
  rw[az ai,az bn]at U
  have out:aA H1 (off [x,lf] H2):=fun b o q=>by
   have bx:=aH q hx
   refine gm (sx b o (by rw[az bx,az (aH q ba)];exact q) bx) ?_
   simp only[hU,iN,or_false,not_or]
   exact⟨bx,aH q U⟩
  have D0:jA C FC PC H2 x [x,lf] (tks++[.eof]) 0 [] .beg dx L lf .non 9 tas [] []:=⟨rfl,by simp only[List.nodup_cons,List.mem_singleton,iN,not_false_eq_true,List.nodup_nil,and_true];exact fun z=>ai z.symm,aE,out _ _ a5,iG bp out,ay,.nil,rfl⟩
  have bi:(tks++[Vbdeaa.Tok.eof]).length=tks.length+1:=by simp
  refine⟨fun m σ H'=>∃(i:Nat)(fs:List Fr)(md:Md)(M:List Addr),σ=[some (.ref l),some (.ref x)]∧m=tks.length+1-i∧i≤tks.length+1∧jL C FC PC H' x M (tks++[.eof]) i fs md∧aA (off [x,lf] H2) (off M H')∧Inv i fs md∧(i<tks.length+1→PM.run (gK t) [] .beg=PM.run ((tks++[Vbdeaa.Tok.eof]).drop i) fs md)∧(i=tks.length+1→∃e k,md=.en e k∧fs=[]∧PM.run (gK t) [] .beg=some e),
   ⟨_,0,[],.beg,[x,lf],rfl,rfl,Nat.zero_le _,⟨dx,L,lf,_,_,tas,[],[],D0⟩,aA.refl _,⟨f' _,fun _ z=>(by cases z),trivial⟩,fun _=>by rw[hT];rfl,fun z=>by omega⟩,?_⟩
  rintro m σ H' ⟨i,fs,md,M,rfl,rfl,hi,O,so,hI,G,av⟩
  obtain⟨S,lt',bE,ev,k0,af,fas,ads,D⟩:=id O
  have bt:H' lt'=some (.lst (af.map V.ref)):=aU _ _ _ _ D.tl
  have a6:(af.map V.ref).length=tks.length+1:=by rw[ap,←Paired.length D.tks,bi]
  refine⟨_,rfl,x,PC,S,_,_,rfl,D.obj,T.cl,T.nA,rfl,_,rfl,x,PC,S,_,_,rfl,D.obj,T.cl,T.nT,rfl,lt',_,rfl,.inl (bZ.of bt),_,_,rfl,rfl,_,rfl,?_⟩
  rw[a6]
  have sH:aA H (off M H'):=(s1.trans out).trans so
  by_cases ax:i<tks.length+1
  ·rw[i9 (by omega)]
   refine bh ⟨fun σ' ag=>∃(j:Nat)(fs:List Fr)(md:Md)(M:List Addr),σ'=[some (.ref l),some (.ref x)]∧tks.length+1-j<tks.length+1-i∧j≤tks.length+1∧jL C FC PC ag x M (tks++[.eof]) j fs md∧aA (off [x,lf] H2) (off M ag)∧Inv j fs md∧(j<tks.length+1→PM.run (gK t) [] .beg=PM.run ((tks++[Vbdeaa.Tok.eof]).drop j) fs md)∧(j=tks.length+1→∃e k,md=.en e k∧fs=[]∧PM.run (gK t) [] .beg=some e),
    fun σ' ag ⟨j,bd,a9,M2,h1,h2,h3⟩=>⟨_,h2,j,bd,a9,M2,h1,rfl,h3⟩,?_⟩
   have hw:=hI.w
   have G:=G ax
   by_cases ah:i<tks.length
   ·have ex:(tks++[Vbdeaa.Tok.eof])[i]?=some tks[i]:=by rw[List.getElem?_append_left ah,ii ah]
    obtain⟨y,ey,aw,bg⟩:∃y,(tks++[Vbdeaa.Tok.eof])[i+1]?=some y∧eV y∧(y≠.eof→i+1<tks.length):=by
     by_cases h3:i+1<tks.length
     ·exact⟨tks[i+1],by rw[List.getElem?_append_left h3,ii h3],(al _ (List.getElem_mem h3)).1,fun _=>h3⟩
     ·exact⟨.eof,by rw[List.getElem?_append_right (by omega),show i+1-tks.length=0 by omega];rfl,trivial,fun z=>absurd rfl z⟩
    obtain⟨Z,aI⟩:=al _ (List.getElem_mem ah)
    have aT:tks[i]≠.bad:=fun z=>by rw[z]at Z;exact Z
    have ed:(tks++[Vbdeaa.Tok.eof]).drop i=tks[i]::y::(tks++[Vbdeaa.Tok.eof]).drop (i+2):=by
     have a1:i<(tks++[Vbdeaa.Tok.eof]).length:=by omega
     have a2:i+1<(tks++[Vbdeaa.Tok.eof]).length:=by omega
     rw[ii a1]at ex
     rw[ii a2]at ey
     rw[List.drop_eq_getElem_cons a1,List.drop_eq_getElem_cons a2,Option.some.inj ex,Option.some.inj ey]
    have a8:(tks++[Vbdeaa.Tok.eof]).drop (i+1)=y::(tks++[Vbdeaa.Tok.eof]).drop (i+2):=by
     rw[←List.drop_drop,ed]
     rfl
    have g:=Q8 (r:=(tks++[Vbdeaa.Tok.eof]).drop (i+2)) (y:=y) (fs:=fs) aI aT (KC O)
    rw[←ed]at g
    refine⟨_,rfl,x,S,_,rfl,D.obj,rfl,x,M,_,i,fs,md,tks[i],y,rfl,O,ex,Z,.inr ⟨ey,aw⟩,by omega,fun d fs' m' J M' H3 Y aa=>?_,fun J=>?_⟩
    ·have ae:=IK Z hI d fs' m' J
     rw[J]at g
     rcases g with⟨rfl,g⟩ | ⟨rfl,hy,g⟩
     ·exact⟨i+1+0,fs',m',M',rfl,by omega,by omega,Y,so.trans aa,ae,fun _=>by rw[G,g,←a8],fun z=>by omega⟩
     ·have:=bg hy
      exact⟨i+1+1,fs',m',M',rfl,by omega,by omega,Y,so.trans aa,ae,fun _=>by rw[G,g],fun z=>by omega⟩
    ·rw[J]at g
     obtain⟨p,hp⟩:=pW hT (.inl rfl) (G.trans g)
     exact(kr p hp).mono sH
   ·have bf:i=tks.length:=by omega
    subst bf
    have ed:(tks++[Vbdeaa.Tok.eof]).drop tks.length=[.eof]:=by simp
    have g:=Q9 (y:=.eof) (fs:=fs) (KC O)
    rw[ed]at G
    refine⟨_,rfl,x,S,_,rfl,D.obj,rfl,x,M,_,tks.length,fs,md,.eof,.eof,rfl,O,by simp,trivial,.inl rfl,by omega,fun d fs' m' J M' H3 Y aa=>?_,fun J=>?_⟩
    ·have ae:=IK (x:=.eof) trivial hI d fs' m' J
     rw[J]at g
     obtain⟨rfl,e,kd,rfl,rfl,g⟩:=g
     exact⟨tks.length+1+0,[],.en e kd,M',rfl,by omega,by omega,Y,so.trans aa,ae,fun z=>by omega,fun _=>⟨e,kd,rfl,rfl,G.trans g⟩⟩
    ·rw[J]at g
     obtain⟨p,hp⟩:=pW hT (.inl rfl) (G.trans g)
     exact(kr p hp).mono sH
  ·rw[j5 (by omega)]
   obtain⟨e,kd,rfl,rfl,a3⟩:=av (by omega)
   obtain⟨⟨a,rfl,a4⟩,_⟩:=D.md
   refine aR ⟨_,rfl,x,PC,S,_,_,rfl,D.obj,T.cl,T.nE,rfl,?_⟩
   have hw:0+Vbdeam.size e≤i:=hI.w
   exact k e (Gg hT (.inl rfl) a3) hI.m (by omega) a H' (sH.trans (aU _ _)) (a4.same (aU _ _))
end
end SB
end
section
namespace SB
open PySem PySem.Spec PyProof.Rows L2 XL
open Vbdeaa (Text Exp Exps Un Bin Ins)
variable {P:Program} {w:World} {K:PySem.W.Frag} {mg:Str→Option Value} {base:Heap}
noncomputable def Jg:Sp:=fun vs H Q _=>∃(l:Addr)(ts:List Addr)(rows:List (List Int)),vs=[.ref l]∧H l=some (.lst (ts.map V.ref))∧Paired (fun row t=>H t=some (.tup (vI row))) rows ts∧rows.flatten.length≤2000000∧Hv H Q (vI rows.flatten)
noncomputable abbrev oJ:Stmt:=top 46
theorem Q3(a b:Text):vI (a++b)=vI a++vI b:=kb
theorem uL:∀(l:List (List Int))(i:Nat),(l.take i).flatten.length≤l.flatten.length
 | [],i=>by rw[List.take_nil];exact f' _
 | a::l,0=>Nat.zero_le _
 | a::l,i+1=>by
  have:=uL l i
  show(a++(l.take i).flatten).length≤(a++l.flatten).length
  rw[gc,gc]
  omega
section
theorem ug:aK ["rows","whole","row"] ["rows"] (aD oJ):=⟨rfl,rfl,rfl,by decide +kernel,rfl,by decide +kernel,by decide +kernel⟩
theorem Gv{f:Addr}{fd:FuncData}(F:Fn K mg "joined" oJ f fd ["rows"]):aF P w K mg base (aW P w) 1 f fd ["rows"] Jg:=by
 refine dZ F.F ug (fun vs H Q E h=>?_) (fun cdv A outer s H vs Q E hr h=>?_)
 ·obtain⟨_,_,_,rfl,_⟩:=h
  rfl
 ·obtain⟨l,ts,rows,rfl,S,O,U,k⟩:=h
  refine⟨_,aq (bw (i:=1) ug.nd rfl (Or.inl rfl) (bT au))
   (aq (uq rC rfl (jj (pv 0)) (cX (i:=2) ug.nd rfl (Or.inl rfl))
    (ao (aN (gC PySem.F.plainAttrs_list PySem.F.slot_list_extend PySem.F.type_list_extend Bo (pv 1) (aj (pv 2) au)))))
   (ao (aV (pv 1)))),?_⟩
  refine⟨(by show 0≤sizeLine;decide),fun D z=>?_⟩
  have s1:aA H (L2.upd H D (.lst [])):=aA.upd z
  refine⟨_,rfl,l,rfl,⟨_,bZ.of (s1 _ _ S)⟩,Ma (K:=K) (a:=l) (xs:=ts.map V.ref)
   (fun i σ H'=>∃J:Option V,σ=[some (.ref l),some (.ref D),J]∧aA H H'∧H' D=some (.lst (vI (rows.take i).flatten)))
   ⟨none,rfl,s1,ak⟩ (fun i σ H' _ ⟨_,_,s2,_⟩=>bZ.of (s2 _ _ S)) ?_ ?_⟩
  ·rintro i x σ H' hi ⟨J,rfl,s2,hw⟩
   obtain⟨t,Y,rfl⟩:=oU hi
   have Z:i<rows.length:=by rw[Paired.length O];exact(hZ.mp Y).1
   obtain⟨row,j⟩:∃row,rows[i]?=some row:=⟨_,ii Z⟩
   obtain⟨t',G,hH⟩:=d_ O j
   rw[Y]at G
   cases G
   have step:(rows.take (i+1)).flatten=(rows.take i).flatten++row:=by
    rw[List.take_succ,j]
    simp
   have L:=uL rows (i+1)
   rw[step,gc]at L
   refine⟨_,rfl,.inl ⟨rfl,_,bZ.of hw⟩,_,rfl,D,t,_,_,rfl,rfl,hw,cR.of (s2 _ _ hH),?_,?_⟩
   ·rw[cT,cT]
    exact iq (by omega:_≤2000000) (by decide)
   ·refine⟨_,rfl,fun c o q=>by rw[az (aH q z)];exact s2 _ _ q,?_⟩
    rw[ak,step,Q3]
  ·rintro σ H' ⟨J,rfl,s2,hw⟩
   rw[ap,←Paired.length O,List.take_length]at hw
   exact⟨_,rfl,k D H' z s2 hw⟩
end
theorem vV:∀c:Vbdeaa.Code,(jU c).flatten.length≤3*c.length
 | []=>f' _
 | i::c=>by
  have:=vV c
  show(i.told++(jU c).flatten).length≤3*(c.length+1)
  rw[gc]
  have:i.told.length≤3:=by cases i<;>simp[Ins.told]
  omega
theorem Fq(c:Vbdeaa.Code):Vbdeaa.toldCode c=(jU c).flatten:=by
 unfold Vbdeaa.toldCode jU
 rw[List.flatMap_def]
noncomputable def wI(C Cx:Addr):Sp:=fun vs H Q E=>∃(a:Addr)(e:Exp)(n:Nat),vs=[.ref a,.int n]∧n≤8∧cF C H e a∧gM e∧e.height≤32∧Vbdeam.size e≤100000∧(MX.Kn n e→Hv H Q (vI (Vbdeam.numbers n e)))∧(¬MX.Kn n e→bz Cx (-8) H E)
noncomputable abbrev oM:Stmt:=top 47
section
theorem JH:aK ["node","n"] ["node","n"] (aD oM):=⟨rfl,rfl,rfl,by decide +kernel,rfl,by decide +kernel,by decide +kernel⟩
theorem K8{f C Cx fI fJ:Addr}{fd dI dJ:FuncData}(F:Fn K mg "code_of" oM f fd ["node","n"])(J:Fn K mg "instructions_of" um fI dI ["node","n"])(GI:aF P w K mg base (aW P w) 39 fI dI ["node","n"] (rW C Cx 32))(z:Fn K mg "joined" oJ fJ dJ ["rows"]):aF P w K mg base (aW P w) 40 f fd ["node","n"] (wI C Cx):=by
 have GJ:aF P w K mg base (aW P w) 1 fJ dJ _ _:=Gv z
 refine dZ F.F JH (fun vs H Q E h=>?_) (fun cdv A outer s H vs Q E Z h=>?_)
 ·obtain⟨_,_,_,rfl,_⟩:=h
  rfl
 ·obtain⟨a,e,n,rfl,D,hn,G,hh,hsz,k,kr⟩:=h
  have L:bH 1 _:=Z.mono (by omega)
  refine⟨_,ao (aV (a_ GJ L rfl z.m z.F.kp z.b .nil passes (aj (a_ GI Z rfl J.m J.F.kp J.b .nil passes (aj (pv 0) (aj (pv 1) au))) au))),?_⟩
  refine⟨_,rfl,_,rfl,a,e,n,rfl,D,hn,G,hh,hsz,fun O l ts H1 hl s1 Y j aa=>?_,kr⟩
  have h1:=vV (Vbdeam.codeOf n e)
  have h2:=cU n e
  refine⟨l,ts,jU (Vbdeam.codeOf n e),rfl,Y,j,by omega,fun l2 H2 U s2 S=>k O l2 H2 (same_none s1 U) (s1.trans s2) ?_⟩
  rw[S]
  unfold Vbdeam.numbers
  rw[Fq]
end
structure SX (n:Nat) (t:Text) (Ct Ce Ch Cx Cl:Addr) (H:Hp) (Q:V→Hp→Prop) (E:XK):Prop where
 long:¬t.length≤2000→bz Ct (-5) H E
 no:t.length≤2000→∀p,Vbdeaa.readExp t=.error p→bz Ce (-6) H E
 high:∀e,t.length≤2000→Vbdeaa.readExp t=.ok e→¬e.height≤32→bz Ch (-7) H E
 name:∀e,t.length≤2000→Vbdeaa.readExp t=.ok e→e.height≤32→¬MX.Kn n e→bz Cx (-8) H E
 big:∀e,t.length≤2000→Vbdeaa.readExp t=.ok e→e.height≤32→MX.Kn n e→¬(Vbdeam.numbers n e).length≤500→bz Cl (-2) H E
 yes:∀e,t.length≤2000→Vbdeaa.readExp t=.ok e→e.height≤32→MX.Kn n e→(Vbdeam.numbers n e).length≤500→gM e→Hv H Q (vI (Vbdeam.numbers n e))
noncomputable def Rb(K:PySem.W.Frag)(Ct Ce Ch Cx Cl:Addr):Sp:=fun vs H Q E=>∃(l:Addr)(n:Nat)(t:Text),vs=[.int n,.ref l]∧bZ K H l (vI t)∧n≤8∧SX n t Ct Ce Ch Cx Cl H Q E
noncomputable abbrev Uj:Stmt:=top 82
theorem Wa{n:Nat}{t:Text}(h:¬t.length≤2000):Vbdeam.readIn n t=.error (-5):=by
 unfold Vbdeam.readIn
 rw[j4 (show Vbdeaa.LONG<t.length by unfold Vbdeaa.LONG;omega)]
theorem V_{n p:Nat}{t:Text}(h:t.length≤2000)(h1:Vbdeaa.readExp t=.error p):Vbdeam.readIn n t=.error (-6):=by
 unfold Vbdeam.readIn
 rw[js (show ¬Vbdeaa.LONG<t.length by unfold Vbdeaa.LONG;omega),h1]
theorem UJ{n:Nat}{t:Text}{e:Exp}(h:t.length≤2000)(h1:Vbdeaa.readExp t=.ok e):Vbdeam.readIn n t=if Vbdeaa.HIGH<e.height then .error (-7)else if Vbdeam.known n e=false then .error (-8)else if Vbdeam.LONGCODE<(Vbdeam.numbers n e).length then .error (-2)else .ok e:=by
 unfold Vbdeam.readIn
 rw[js (show ¬Vbdeaa.LONG<t.length by unfold Vbdeaa.LONG;omega),h1]
theorem V9{n:Nat}{t:Text}{e:Exp}(h:t.length≤2000)(h1:Vbdeaa.readExp t=.ok e)(h2:¬e.height≤32):Vbdeam.readIn n t=.error (-7):=by
 rw[UJ h h1,j4 (show Vbdeaa.HIGH<e.height by unfold Vbdeaa.HIGH;omega)]
theorem UG{n:Nat}{t:Text}{e:Exp}(h:t.length≤2000)(h1:Vbdeaa.readExp t=.ok e)(h2:e.height≤32):Vbdeam.readIn n t=if Vbdeam.known n e=false then .error (-8)else if Vbdeam.LONGCODE<(Vbdeam.numbers n e).length then .error (-2)else .ok e:=by
 rw[UJ h h1,js (show ¬Vbdeaa.HIGH<e.height by unfold Vbdeaa.HIGH;omega)]
theorem V8{n:Nat}{t:Text}{e:Exp}(h:t.length≤2000)(h1:Vbdeaa.readExp t=.ok e)(h2:e.height≤32)(j:¬MX.Kn n e):Vbdeam.readIn n t=.error (-8):=by
 rw[UG h h1 h2,j4 (by rw[←Bool.not_eq_true];exact fun z=>j ((eX n e).mpr z))]
theorem Uz{n:Nat}{t:Text}{e:Exp}(h:t.length≤2000)(h1:Vbdeaa.readExp t=.ok e)(h2:e.height≤32)(j:MX.Kn n e):Vbdeam.readIn n t=if Vbdeam.LONGCODE<(Vbdeam.numbers n e).length then .error (-2)else .ok e:=by
 rw[UG h h1 h2,js (show ¬Vbdeam.known n e=false by rw[(eX n e).mp j];simp)]
theorem Wb{n:Nat}{t:Text}{e:Exp}(h:t.length≤2000)(h1:Vbdeaa.readExp t=.ok e)(h2:e.height≤32)(j:MX.Kn n e)(z:¬(Vbdeam.numbers n e).length≤500):Vbdeam.readIn n t=.error (-2):=by
 rw[Uz h h1 h2 j,j4 (show Vbdeam.LONGCODE<_ by unfold Vbdeam.LONGCODE;omega)]
theorem V7{n:Nat}{t:Text}{e:Exp}(h:t.length≤2000)(h1:Vbdeaa.readExp t=.ok e)(h2:e.height≤32)(j:MX.Kn n e)(z:(Vbdeam.numbers n e).length≤500):Vbdeam.readIn n t=.ok e:=by
 rw[Uz h h1 h2 j,js (show ¬Vbdeam.LONGCODE<_ by unfold Vbdeam.LONGCODE;omega)]
theorem Fg{n:Int}(h:¬(0≤n∧n≤8)):Vbdeam.within n 0 8=false:=by
 unfold Vbdeam.within
 by_cases h0:0≤n
 ·rw[j5 (show ¬n≤8 by omega),Bool.and_false]
 ·rw[j5 h0,Bool.false_and]
theorem zX{n:Nat}(h:n≤8):Vbdeam.within n 0 8=true:=by
 unfold Vbdeam.within
 rw[i9 (show(0:Int)≤n by omega),i9 (show(n:Int)≤8 by omega)]
 rfl
section
theorem Rj:aK ["n","signs","node","numbers"] ["n","signs"] (aD Uj):=⟨rfl,rfl,rfl,by decide +kernel,rfl,by decide +kernel,by decide +kernel⟩
theorem Ut{f C Ct Ce Ch Cx Cl f1 f2 f3 i5 i7:Addr}{fd d1 d2 d3 d5 d7:FuncData}(F:Fn K mg "taken_text" Uj f fd ["n","signs"])(N:v_ K C)(S:CS K mg)(aa:GC K mg "LONGEST_TEXT" (.i 2000))(U:XC P w K mg base "TextTooLong" Ct i5 d5 (-5))(X7:XC P w K mg base "TextTooHigh" Ch i7 d7 (-7))
  (F1:Fn K mg "expression_of" yJ f1 d1 ["text"]) (G1:aF P w K mg base (aW P w) 9 f1 d1 ["text"] (Ai K C Ce)) (F2:Fn K mg "code_of" oM f2 d2 ["node","n"]) (G2:aF P w K mg base (aW P w) 40 f2 d2 ["node","n"] (wI C Cx)) (F3:Fn K mg "check_length" JR f3 d3 ["numbers"]) (G3:aF P w K mg base (aW P w) 4 f3 d3 ["numbers"] (Jf K Cl)):aF P w K mg base (aW P w) 41 f fd ["n","signs"] (Rb K Ct Ce Ch Cx Cl):=by
 refine dZ F.F Rj (fun vs H Q E h=>?_) (fun cdv A outer s H vs Q E hr h=>?_)
 ·obtain⟨_,_,_,rfl,_⟩:=h
  rfl
 ·obtain⟨l,n,t,rfl,hl,ae,k⟩:=h
  have L:bH 3 _:=hr.mono (by omega)
  have ac:bH 4 _:=hr.mono (by omega)
  have af:bH 9 _:=hr.mono (by omega)
  refine⟨_,aq (aX (aG qG (bW bG (by rfl) S.len (by decide +kernel) (aj (pv 1) au)) (bu rfl aa) (aL _)) (ao (bO U.made U.cls U.ok L rfl U.m U.b rfl bF)) aP)
   (aq (bw (i:=2) Rj.nd rfl (Or.inl rfl) (a_ G1 af rfl F1.m F1.F.kp F1.b .nil passes (aj (pv 1) au)))
   (aq (aX (aG qG (aJ (pv 2) rfl) (bu rfl S.HI) (aL _)) (ao (bO X7.made X7.cls X7.ok L rfl X7.m X7.b rfl bF)) aP)
   (aq (bw (i:=3) Rj.nd rfl (Or.inl rfl) (a_ G2 hr rfl F2.m F2.F.kp F2.b .nil passes (aj (pv 2) (aj (pv 0) au))))
   (aq (aN (a_ G3 ac rfl F3.m F3.F.kp F3.b .nil passes (aj (pv 3) au))) (ao (aV (pv 3))))))),?_⟩
  refine⟨_,rfl,l,vI t,rfl,.inl hl,_,_,rfl,rfl,_,rfl,fQ (fun h1=>?_) fun h1=>?_⟩
  ·have h1:(2000:Int)<((vI t).length:Nat):=jv h1
   rw[cT]at h1
   exact(k.long (by omega)).go
  ·have h1:¬(2000:Int)<((vI t).length:Nat):=fun z=>h1 (i9 z)
   rw[cT]at h1
   have J:t.length≤2000:=by omega
   refine⟨_,rfl,l,t,rfl,hl,J,fun e he Z hsz a H1 s1 O=>?_,fun p hp=>k.no J p hp⟩
   obtain⟨dx,D,lk,as,h2,hD,ah,hp⟩:=oX O
   refine⟨_,rfl,a,C,dx,_,_,rfl,h2,N.cl,N.nH,rfl,_,_,rfl,rfl,_,rfl,fQ (fun Y=>?_) fun Y=>?_⟩
   ·have Y:(32:Int)<e.height:=jv Y
    exact((k.high e J he (by omega)).mono s1).go
   ·have Y:¬(32:Int)<e.height:=fun z=>Y (i9 z)
    have hh:e.height≤32:=by omega
    refine⟨_,rfl,_,rfl,a,e,n,rfl,ae,O,Z,hh,by omega,fun j nl H2 ag s2 G=>?_,fun j=>(k.name e J he hh j).mono s1⟩
    refine⟨_,rfl,nl,_,rfl,bZ.of G,fun h4=>?_,fun h4=>?_⟩
    ·rw[cT]at h4
     exact⟨_,rfl,k.yes e J he hh j h4 Z nl H2 (same_none s1 ag) (s1.trans s2) G⟩
    ·rw[cT]at h4
     exact(k.big e J he hh j h4).mono (s1.trans s2)
end
noncomputable abbrev Do:Stmt:=top 84
theorem Mq{n:Int}{t:Text}(h:¬(0≤n∧n≤8)):PyVbdeam.code n t=[-1]:=by
 show Vbdeam.given (if Vbdeam.within n 0 8=false then .error (-1)else _)=_
 rw[j4 (Fg h)]
 rfl
theorem Er{n:Nat}{t:Text}(h:n≤8):PyVbdeam.code n t=Vbdeam.given ((Vbdeam.readIn n t).map fun e=>Vbdeam.row (Vbdeam.numbers n e)):=by
 show Vbdeam.given (if Vbdeam.within n 0 8=false then .error (-1)else _)=_
 rw[js (by rw[zX h];simp)]
 rfl
theorem ph{n:Nat}{e:Int}{t:Text}(h:n≤8)(h1:Vbdeam.readIn n t=.error e):PyVbdeam.code n t=[e]:=by rw[Er h,h1];rfl
theorem Mp{n:Nat}{t:Text}{a:Exp}(h:n≤8)(h1:Vbdeam.readIn n t=.ok a):PyVbdeam.code n t=0::Vbdeam.row (Vbdeam.numbers n a):=by rw[Er h,h1];rfl
noncomputable def Al(K:PySem.W.Frag):Sp:=fun vs H Q _=>∃(n:Int)(l:Addr)(t:List Int),vs=[.int n,.ref l]∧bZ K H l (vI t)∧Hv H Q (vI (PyVbdeam.code n t))
section
theorem JK:aK ["n","text","refusal"] ["n","text"] (aD Do):=⟨rfl,rfl,rfl,by decide +kernel,rfl,by decide +kernel,by decide +kernel⟩
theorem O5{f Rc Cw Ct Ce Ch Cx Cl f1 f2 f8:Addr}{fd d1 d2 d8:FuncData}(F:Fn K mg "code" Do f fd ["n","text"])(hR:mg "Refusal"=some (.ref Rc))
  (S:Fn K mg "check_parameters" JM f1 d1 ["n"]) (G1:aF P w K mg base (aW P w) 4 f1 d1 ["n"] (Jb Cw)) (Y:Fn K mg "taken_text" Uj f2 d2 ["n","signs"]) (G2:aF P w K mg base (aW P w) 41 f2 d2 ["n","signs"] (Rb K Ct Ce Ch Cx Cl))
  (F8:Fn K mg "done" yK f8 d8 ["row"]) (G8:aF P w K mg base (aW P w) 1 f8 d8 ["row"] Jj)
  (cw:pI K Cw) (ct:pI K Ct) (ce:pI K Ce) (ch:pI K Ch) (cx:pI K Cx) (cl:pI K Cl) (xw:PySem.W.exmOne K (.ref Cw) (.ref Rc)=some true) (xt:PySem.W.exmOne K (.ref Ct) (.ref Rc)=some true) (xe:PySem.W.exmOne K (.ref Ce) (.ref Rc)=some true) (xh:PySem.W.exmOne K (.ref Ch) (.ref Rc)=some true) (xx:PySem.W.exmOne K (.ref Cx) (.ref Rc)=some true) (xl:PySem.W.exmOne K (.ref Cl) (.ref Rc)=some true) :
  aF P w K mg base (aW P w) 67 f fd ["n","text"] (Al K):=by
 refine dZ F.F JK (fun vs H Q E h=>?_) (fun cdv A outer s H vs Q E hr h=>?_)
 ·obtain⟨_,_,_,rfl,_⟩:=h
  rfl
 ·obtain⟨n,l,t,rfl,hl,k⟩:=h
  have U:bH 1 _:=hr.mono (by omega)
  have L:bH 4 _:=hr.mono (by omega)
  have D:bH 41 _:=hr.mono (by omega)
  refine⟨_,ao (Gi (Rc:=Rc) (i:=2) rfl JK.nd rfl rfl rfl hR rfl rfl (fun pn xe E th=>aq (aN (a_ G1 L rfl S.m S.F.kp S.b .nil th.passes (aj (pv 0) au)))
   (ao (aV (a_ G8 U rfl F8.m F8.F.kp F8.b .nil th.passes (aj (a_ G2 D rfl Y.m Y.F.kp Y.b .nil th.passes (aj (pv 0) (aj (pv 1) au))) au)))))),?_⟩
  refine⟨_,rfl,n,rfl,fun hn=>?_,fun hn=>caught cw xw k (by rw[Mq hn];rfl)⟩
  obtain⟨m,rfl⟩:∃m:Nat,n=m:=⟨n.toNat,by omega⟩
  have j:m≤8:=by omega
  refine⟨_,rfl,_,rfl,l,m,t,rfl,hl,j,?_⟩
  refine⟨fun h1=>caught ct xt k (by rw[ph j (Wa h1)];rfl),fun h1 p h2=>caught ce xe k (by rw[ph j (V_ h1 h2)];rfl),fun e h1 h2 z=>caught ch xh k (by rw[ph j (V9 h1 h2 z)];rfl),fun e h1 h2 z J=>caught cx xx k (by rw[ph j (V8 h1 h2 z J)];rfl),fun e h1 h2 z J O=>caught cl xl k (by rw[ph j (Wb h1 h2 z J O)];rfl),fun e h1 h2 z J O _ nl H1 aa s1 G=>?_⟩
  rw[Mp j (V7 h1 h2 z J O)]at k
  refine⟨nl,_,rfl,G,by rw[cT];omega,fun l8 H8 Z s8 h8=>k l8 H8 (same_none s1 Z) (s1.trans s8) ?_⟩
  rw[h8,cT]
  rfl
end
theorem rT{us:List Value}{n:Nat}(h:us.length=n+1):∃a r,us=a::r∧r.length=n:=by
 cases us with
 | nil=>cases h
 | cons a r=>exact⟨a,r,rfl,Nat.succ.inj h⟩
theorem nJ{us:List Value}(h:us.length=1):∃a,us=[a]:=by
 obtain⟨a,r,rfl,h2⟩:=rT h
 exact⟨a,by rw[List.length_eq_zero_iff.mp h2]⟩
theorem qz{us:List Value}(h:us.length=2):∃j a1,us=[j,a1]:=by
 obtain⟨j,r,rfl,h2⟩:=rT h
 obtain⟨a1,rfl⟩:=nJ h2
 exact⟨j,a1,rfl⟩
theorem Ve{us:List Value}(h:us.length=3):∃j a1 a2,us=[j,a1,a2]:=by
 obtain⟨j,r,rfl,h2⟩:=rT h
 obtain⟨a1,a2,rfl⟩:=qz h2
 exact⟨j,a1,a2,rfl⟩
theorem Tu{us:List Value}(h:us.length=4):∃z a1 a2 j,us=[z,a1,a2,j]:=by
 obtain⟨z,r,rfl,h2⟩:=rT h
 obtain⟨a1,a2,j,rfl⟩:=Ve h2
 exact⟨z,a1,a2,j,rfl⟩
theorem BW:aM "kind_of" "kind_of" qD ["form","detail"]:=fun _ _ _ _ _ _ us j=>by obtain⟨z,a1,rfl⟩:=qz j;rfl
theorem zH:aM "place_of" "place_of" pU ["kind","position"]:=fun _ _ _ _ _ _ us j=>by obtain⟨z,a1,rfl⟩:=qz j;rfl
theorem xX:aM "around_of" "around_of" oO ["kind","position"]:=fun _ _ _ _ _ _ us j=>by obtain⟨z,a1,rfl⟩:=qz j;rfl
theorem qt:aM "number_within" "number_within" jg ["name","head","tail","count"]:=fun _ _ _ _ _ _ us j=>by obtain⟨z,a1,a2,D,rfl⟩:=Tu j;rfl
theorem pB:aM "number_of_read" "number_of_read" JQ ["name"]:=fun _ _ _ _ _ _ us j=>by obtain⟨z,rfl⟩:=nJ j;rfl
theorem iu:aM "bare_name_instruction" "bare_name_instruction" yL ["name","n"]:=fun _ _ _ _ _ _ us j=>by obtain⟨z,a1,rfl⟩:=qz j;rfl
theorem gG:aM "called_name_instruction" "called_name_instruction" oN ["name","count"]:=fun _ _ _ _ _ _ us j=>by obtain⟨z,a1,rfl⟩:=qz j;rfl
theorem nZ:aM "instructions_of" "instructions_of" um ["node","n"]:=fun _ _ _ _ _ _ us j=>by obtain⟨z,a1,rfl⟩:=qz j;rfl
theorem mO:aM "own_instructions" "own_instructions" JN ["node","sizes","n"]:=fun _ _ _ _ _ _ us j=>by obtain⟨z,a1,a2,rfl⟩:=Ve j;rfl
theorem lg:aM "last_instructions" "last_instructions" yI ["node","n"]:=fun _ _ _ _ _ _ us j=>by obtain⟨z,a1,rfl⟩:=qz j;rfl
theorem Hj:aM "joined" "joined" oJ ["rows"]:=fun _ _ _ _ _ _ us j=>by obtain⟨z,rfl⟩:=nJ j;rfl
theorem BX:aM "code_of" "code_of" oM ["node","n"]:=fun _ _ _ _ _ _ us j=>by obtain⟨z,a1,rfl⟩:=qz j;rfl
theorem pD:aM "common_divisor" "common_divisor" JW ["a","b"]:=fun _ _ _ _ _ _ us j=>by obtain⟨z,a1,rfl⟩:=qz j;rfl
theorem rG:aM "lowest_terms" "lowest_terms" oH ["numerator","denominator"]:=fun _ _ _ _ _ _ us j=>by obtain⟨z,a1,rfl⟩:=qz j;rfl
theorem zJ:aM "is_digit" "is_digit" jh ["sign"]:=fun _ _ _ _ _ _ us j=>by obtain⟨z,rfl⟩:=nJ j;rfl
theorem xW:aM "is_letter" "is_letter" gQ ["sign"]:=fun _ _ _ _ _ _ us j=>by obtain⟨z,rfl⟩:=nJ j;rfl
theorem rH:aM "is_name_sign" "is_name_sign" ul ["sign"]:=fun _ _ _ _ _ _ us j=>by obtain⟨z,rfl⟩:=nJ j;rfl
theorem pC:aM "name_sign_text" "name_sign_text" JP ["sign"]:=fun _ _ _ _ _ _ us j=>by obtain⟨z,rfl⟩:=nJ j;rfl
theorem xV:aM "tokens_of" "tokens_of" yG ["text"]:=fun _ _ _ _ _ _ us j=>by obtain⟨z,rfl⟩:=nJ j;rfl
theorem qu:aM "expression_of" "expression_of" yJ ["text"]:=fun _ _ _ _ _ _ us j=>by obtain⟨z,rfl⟩:=nJ j;rfl
theorem mQ:aM "check_parameters" "check_parameters" JM ["n"]:=fun _ _ _ _ _ _ us j=>by obtain⟨z,rfl⟩:=nJ j;rfl
theorem rJ:aM "check_length" "check_length" JR ["numbers"]:=fun _ _ _ _ _ _ us j=>by obtain⟨z,rfl⟩:=nJ j;rfl
theorem vh:aM "taken_text" "taken_text" Uj ["n","signs"]:=fun _ _ _ _ _ _ us j=>by obtain⟨z,a1,rfl⟩:=qz j;rfl
theorem Qo:aM "done" "done" yK ["row"]:=fun _ _ _ _ _ _ us j=>by obtain⟨z,rfl⟩:=nJ j;rfl
theorem Et:aM "code" "code" Do ["n","text"]:=fun _ _ _ _ _ _ us j=>by obtain⟨z,a1,rfl⟩:=qz j;rfl
theorem rK:aM "peek" "Scanner.peek" (bM 1) ["self","ahead"]:=fun _ _ _ _ _ _ us j=>by obtain⟨z,a1,rfl⟩:=qz j;rfl
theorem jJ:aM "scan_token" "Scanner.scan_token" (bM 2) ["self"]:=fun _ _ _ _ _ _ us j=>by obtain⟨z,rfl⟩:=nJ j;rfl
theorem iy:aM "digits_behind" "Scanner.digits_behind" (bM 3) ["self","sign"]:=fun _ _ _ _ _ _ us j=>by obtain⟨z,a1,rfl⟩:=qz j;rfl
theorem jr:aM "take_digits" "Scanner.take_digits" (bM 4) ["self","number"]:=fun _ _ _ _ _ _ us j=>by obtain⟨z,a1,rfl⟩:=qz j;rfl
theorem iw:aM "take_decimals" "Scanner.take_decimals" (bM 5) ["self","whole"]:=fun _ _ _ _ _ _ us j=>by obtain⟨z,a1,rfl⟩:=qz j;rfl
theorem jt:aM "scan_number" "Scanner.scan_number" (bM 6) ["self"]:=fun _ _ _ _ _ _ us j=>by obtain⟨z,rfl⟩:=nJ j;rfl
theorem gH:aM "take_name_signs" "Scanner.take_name_signs" (bM 7) ["self"]:=fun _ _ _ _ _ _ us j=>by obtain⟨z,rfl⟩:=nJ j;rfl
theorem lu:aM "scan_name" "Scanner.scan_name" (bM 8) ["self"]:=fun _ _ _ _ _ _ us j=>by obtain⟨z,rfl⟩:=nJ j;rfl
theorem lq:aM "scan_sign" "Scanner.scan_sign" (bM 9) ["self"]:=fun _ _ _ _ _ _ us j=>by obtain⟨z,rfl⟩:=nJ j;rfl
theorem iW:aM "ends_with_part" "Frame.ends_with_part" (wR 1) ["self"]:=fun _ _ _ _ _ _ us j=>by obtain⟨z,rfl⟩:=nJ j;rfl
theorem uR:aM "take" "Parser.take" (aY 1) ["self"]:=fun _ _ _ _ _ _ us j=>by obtain⟨z,rfl⟩:=nJ j;rfl
theorem uT:aM "step" "Parser.step" (aY 2) ["self"]:=fun _ _ _ _ _ _ us j=>by obtain⟨z,rfl⟩:=nJ j;rfl
theorem uU:aM "push" "Parser.push" (aY 3) ["self","form","detail","parts"]:=fun _ _ _ _ _ _ us j=>by obtain⟨z,a1,a2,D,rfl⟩:=Tu j;rfl
theorem rN:aM "begin" "Parser.begin" (aY 4) ["self","token"]:=fun _ _ _ _ _ _ us j=>by obtain⟨z,a1,rfl⟩:=qz j;rfl
theorem lB:aM "begin_name" "Parser.begin_name" (aY 5) ["self","name"]:=fun _ _ _ _ _ _ us j=>by obtain⟨z,a1,rfl⟩:=qz j;rfl
theorem lA:aM "begin_word" "Parser.begin_word" (aY 6) ["self","word"]:=fun _ _ _ _ _ _ us j=>by obtain⟨z,a1,rfl⟩:=qz j;rfl
theorem iB:aM "begin_brackets" "Parser.begin_brackets" (aY 7) ["self","form","detail"]:=fun _ _ _ _ _ _ us j=>by obtain⟨z,a1,a2,rfl⟩:=Ve j;rfl
theorem rM:aM "go_on" "Parser.go_on" (aY 8) ["self","token"]:=fun _ _ _ _ _ _ us j=>by obtain⟨z,a1,rfl⟩:=qz j;rfl
theorem ju:aM "go_on_around" "Parser.go_on_around" (aY 9) ["self","token"]:=fun _ _ _ _ _ _ us j=>by obtain⟨z,a1,rfl⟩:=qz j;rfl
theorem n6:aM "join_two" "Parser.join_two" (aY 10) ["self","form","detail"]:=fun _ _ _ _ _ _ us j=>by obtain⟨z,a1,a2,rfl⟩:=Ve j;rfl
theorem mV:aM "end_parts" "Parser.end_parts" (aY 11) ["self"]:=fun _ _ _ _ _ _ us j=>by obtain⟨z,rfl⟩:=nJ j;rfl
theorem mW:aM "end_frame" "Parser.end_frame" (aY 12) ["self"]:=fun _ _ _ _ _ _ us j=>by obtain⟨z,rfl⟩:=nJ j;rfl
theorem n8:aM "end_with" "Parser.end_with" (aY 13) ["self","form","detail","parts"]:=fun _ _ _ _ _ _ us j=>by obtain⟨z,a1,a2,D,rfl⟩:=Tu j;rfl
theorem lz:aM "next_of_if" "Parser.next_of_if" (aY 14) ["self","count"]:=fun _ _ _ _ _ _ us j=>by obtain⟨z,a1,rfl⟩:=qz j;rfl
theorem gJ:aM "next_in_brackets" "Parser.next_in_brackets" (aY 15) ["self"]:=fun _ _ _ _ _ _ us j=>by obtain⟨z,rfl⟩:=nJ j;rfl
theorem mU:aM "keep_part" "Parser.keep_part" (aY 16) ["self"]:=fun _ _ _ _ _ _ us j=>by obtain⟨z,rfl⟩:=nJ j;rfl
theorem iz:aM "close_brackets" "Parser.close_brackets" (aY 17) ["self"]:=fun _ _ _ _ _ _ us j=>by obtain⟨z,rfl⟩:=nJ j;rfl
theorem Qp:aM "__init__" "Node.__init__" Dn ["self","form","detail","parts"]:=fun _ _ _ _ _ _ us j=>by obtain⟨z,a1,a2,D,rfl⟩:=Tu j;rfl
theorem Ca:aM "__init__" "Scanner.__init__" (bM 0) ["self","signs"]:=fun _ _ _ _ _ _ us j=>by obtain⟨z,a1,rfl⟩:=qz j;rfl
theorem Mt:aM "__init__" "Frame.__init__" (wR 0) ["self","form","detail","parts"]:=fun _ _ _ _ _ _ us j=>by obtain⟨z,a1,a2,D,rfl⟩:=Tu j;rfl
theorem Hl:aM "__init__" "Parser.__init__" (aY 0) ["self","tokens"]:=fun _ _ _ _ _ _ us j=>by obtain⟨z,a1,rfl⟩:=qz j;rfl
theorem Ci:aM "__init__" "Refusal.__init__" vd ["self","number"]:=fun _ _ _ _ _ _ us j=>by obtain⟨z,a1,rfl⟩:=qz j;rfl
theorem jw:aM "__init__" "WrongParameterCount.__init__" (yH 26) ["self"]:=fun _ _ _ _ _ _ us j=>by obtain⟨z,rfl⟩:=nJ j;rfl
theorem uX:aM "__init__" "CodeTooLong.__init__" (yH 27) ["self"]:=fun _ _ _ _ _ _ us j=>by obtain⟨z,rfl⟩:=nJ j;rfl
theorem uV:aM "__init__" "TextTooLong.__init__" wN ["self"]:=fun _ _ _ _ _ _ us j=>by obtain⟨z,rfl⟩:=nJ j;rfl
theorem rO:aM "__init__" "NoExpression.__init__" wQ ["self"]:=fun _ _ _ _ _ _ us j=>by obtain⟨z,rfl⟩:=nJ j;rfl
theorem uW:aM "__init__" "TextTooHigh.__init__" wO ["self"]:=fun _ _ _ _ _ _ us j=>by obtain⟨z,rfl⟩:=nJ j;rfl
theorem xY:aM "__init__" "WrongName.__init__" wM ["self"]:=fun _ _ _ _ _ _ us j=>by obtain⟨z,rfl⟩:=nJ j;rfl
noncomputable def consts:List (Str×TV):=([("ONE",.i 2),("TWO",.i 3),("AND",.i 4),("OR",.i 5),("IF",.i 6),("STRONGEST",.i 9),("ONE_KINDS",tvs S8),("TWO_KINDS",tvs S5),("PLACES",.t (ou.map tvs)),("AROUND",.t (pK.map tvs)),("NUMBER",.i 0),("NAME",.i 1),("PICK",.i 7),("ONE_WORDS",Fj vm),("PICK_WORDS",Fj rm),("TWO_SIGNS",.t (dY.map tvs)),("FORMULAS",.i 64),("TABLES",.i 64),("MOST_ARGUMENTS",.i 8),("CALL",.i 8),("MOST_PARAMETERS",.i 8),("LONGEST_CODE",.i 500),("LONGEST_TEXT",.i 2000),("HIGHEST",.i 32),("DEEPEST",.i 32),("LARGEST",.i 1000000000000000000),("READ_ROWS",.t (ROWS.map J1)),("POINT",.i 46),("COLON",.i 58),("UNDERSCORE",.i 95)]:List (Str×TV))++([("BLANKS",tvs [32,9,10,13]),("LONGEST_NAME",.i 24),("SMALL_LETTERS",.s ABC),("WORDS",Fj u0),("GROUP",.i 9),("NEGATIVE",.i 0),("NEGATION",.i 1),("OPENING",.t [.s "mark",.s "("]),("MINUS",.t [.s "two",.i 1])]:List (Str×TV))
noncomputable def absent:List Str:=["max","len","str","list","range","tuple","Exception","int","zip","abs"]
noncomputable def constsOk(K:PySem.W.Frag):Bool:=consts.all fun p=>Wf K p.1 p.2
noncomputable def zO(K:PySem.W.Frag):Bool:=absent.all fun x=>isAbsent K x
theorem UW{K:PySem.W.Frag}{h:Heap}{mg:Str→Option Value}{x:Str}{c:TV}(X:K.In h)(G:h.Ns mainGlobals mg)(j:constsOk K=true)(i:Nat)(e:consts[i]?=some (x,c)):GC K mg x c :=
 UV X G (j6.mp j (x,c) (j' e))
theorem Uu{K:PySem.W.Frag}{h:Heap}{mg:Str→Option Value}{x:Str}(X:K.In h)(G:h.Ns mainGlobals mg)(j:zO K=true)(i:Nat)(e:absent[i]?=some x):mg x=none:=by
 have:=j6.mp j x (j' e)
 unfold isAbsent at this
 split at this
 ·rename_i q
  exact PySem.W.mg_none_of X G q
 ·cases this
noncomputable def Qa(K:PySem.W.Frag)(x:Str):Bool:=match PySem.W.nsIn K mainGlobals x with
 | some (some (.ref a))=>(match K.lookup a with
  | some ⟨.type c,none,_,_⟩=>decide (c = "tuple")
  | _=>false)
 | _=>false
theorem LK{K:PySem.W.Frag}{h:Heap}{mg:Str→Option Value}{x:Str}{l:List TV}(X:K.In h)(G:h.Ns mainGlobals mg)(e:GC K mg x (.t l))(e2:Qa K x=true):∃a xs,GT K mg x l a xs:=by
 obtain⟨u,v,D,j,O⟩:=e
 unfold Qa at e2
 split at e2
 ·rename_i a q
  have m:=PySem.W.mg_of X G q
  split at e2
  ·rename_i c d s F
   have z:c = "tuple":=jv e2
   subst z
   obtain⟨L,xs,rfl,J,S⟩:=jG.tup O
   have j:u=.ref L:=j
   subst j
   rw[D]at m
   cases m
   exact⟨_,xs,D,J,S,_,F,rfl,rfl⟩
  ·cases e2
 ·cases e2
noncomputable def xN(w:World):List (Int×Str)→List DictEntry→Prop
 | [],[]=>True
 | p::r,e::s=>(∃t t',e.key=.int p.1 t∧e.val=.str p.2 t')∧e.hash=Uy w (Sum.inl p.1)∧xN w r s
 | _,_=>False
theorem zy{w:World}:∀{l:List (Int×Str)}{es:List DictEntry},xN w l es→es.length=l.length
 | [],[],_=>rfl
 | p::r,e::s,h=>by simp only[cr];rw[zy h.2.2]
 | [],e::s,h=>h.elim
 | p::r,[],h=>h.elim
theorem vX{P:Program}{w:World}:∀{l:List (Int×Str)}{es:List DictEntry},xN w l es→∃vs:List (Key×Value),KV (l.map fun p=>(Sum.inl p.1,V.str p.2)) vs∧Pairs (cJ P w) es vs∧vs.map (·.1)=l.map (fun p=>(Sum.inl p.1:Key))∧∀e∈es,∃k,(cJ P w).is k e.key=true∧e.hash=(cJ P w).hash k
 | [],[],_=>⟨[],.nil,.nil,rfl,fun e h=>by cases h⟩
 | p::r,e::s,h=>by
  obtain⟨vs,h1,h2,D,J⟩:=vX (P:=P) h.2.2
  obtain⟨t,t',z,F⟩:=h.1
  refine⟨(Sum.inl p.1,e.val)::vs,.cons ⟨rfl,by rw[F];exact⟨t',rfl⟩⟩ h1,.cons (by show(cJ P w).is (Sum.inl p.1) e.key=true;rw[z];exact kh P w _ t) rfl h2,by rw[i6,i6,D],fun G j=>?_⟩
  rcases hU.mp j with rfl | j
  ·exact⟨Sum.inl p.1,by rw[z];exact kh P w _ t,h.2.1⟩
  ·exact J G j
 | [],e::s,h=>h.elim
 | p::r,[],h=>h.elim
noncomputable def QS:List (Int×Str):=[(40,"("),(41,")"),(44,",")]
theorem y_:(QS.map fun p=>(Sum.inl p.1:Key)).Nodup:=by decide +kernel
theorem WM{K:PySem.W.Frag}{w:World}{h:Heap}{mg:Str→Option Value}{d:Addr}{es:List DictEntry}{ep:Nat}(X:K.In h)(G:h.Ns mainGlobals mg)(a:PySem.W.nsIn K mainGlobals "MARKS"=some (some (.ref d)))(l:K.lookup d=some ⟨.type "dict",none,.dict es.toArray ep,#[]⟩)(F:(d==sysModules)=false)(z:xN w QS es) :
  ∃d,mg "MARKS"=some (.ref d)∧KDict K w d lR:=by
 refine⟨d,PySem.W.mg_of X G a,F,fun P=>?_⟩
 obtain⟨vs,h1,h2,D,J⟩:=vX (P:=P) z
 refine⟨_,es.toArray,ep,vs,l,⟨rfl,rfl,rfl⟩,rfl,?_,h1,fun e j=>J e (by simpa using j),by simpa using h2,by rw[D];exact y_⟩
 rw[ib,zy z]
 rfl
theorem SQ{P:Program}{w:World}{K:PySem.W.Frag}{h:Heap}{mg:Str→Option Value}{fa:Addr}(X:K.In h)(G:h.Ns mainGlobals mg)(hq:mg "code"=some (.ref fa))(hc:constsOk K=true)(ha:zO K=true)(hg:(["TWO_SIGNS","ONE_WORDS","PICK_WORDS"].all fun x=>Qa K x)=true)(hd:∃d,mg "READ_ALONE"=some (.ref d)∧KDict K w d mK)(hm:∃d,mg "MARKS"=some (.ref d)∧KDict K w d lR)
  (et:∃f fd,Fn K mg "kind_of" qD f fd ["form","detail"])
  (ee:∃f fd,Fn K mg "place_of" pU f fd ["kind","position"])
  (ed:∃f fd,Fn K mg "around_of" oO f fd ["kind","position"])
  (c0:∃f fd,Fn K mg "number_within" jg f fd ["name","head","tail","count"])
  (cn:∃f fd,Fn K mg "number_of_read" JQ f fd ["name"])
  (aC:∃f fd,Fn K mg "bare_name_instruction" yL f fd ["name","n"])
  (af:∃f fd,Fn K mg "called_name_instruction" oN f fd ["name","count"])
  (b3:∃f fd,Fn K mg "instructions_of" um f fd ["node","n"])
  (bp:∃f fd,Fn K mg "own_instructions" JN f fd ["node","sizes","n"])
  (bb:∃f fd,Fn K mg "last_instructions" yI f fd ["node","n"])
  (eL:∃f fd,Fn K mg "joined" oJ f fd ["rows"])
  (ez:∃f fd,Fn K mg "code_of" oM f fd ["node","n"])
  (cb:∃f fd,Fn K mg "common_divisor" JW f fd ["a","b"])
  (c7:∃f fd,Fn K mg "lowest_terms" oH f fd ["numerator","denominator"])
  (ej:∃f fd,Fn K mg "is_digit" jh f fd ["sign"])
  (d2:∃f fd,Fn K mg "is_letter" gQ f fd ["sign"])
  (df:∃f fd,Fn K mg "is_name_sign" ul f fd ["sign"])
  (cg:∃f fd,Fn K mg "name_sign_text" JP f fd ["sign"])
  (dV:∃f fd,Fn K mg "tokens_of" yG f fd ["text"])
  (cA:∃f fd,Fn K mg "expression_of" yJ f fd ["text"])
  (bo:∃f fd,Fn K mg "check_parameters" JM f fd ["n"])
  (c9:∃f fd,Fn K mg "check_length" JR f fd ["numbers"])
  (dF:∃f fd,Fn K mg "taken_text" Uj f fd ["n","signs"])
  (fw:∃f fd,Fn K mg "done" yK f fd ["row"])
  (fh:∃f fd,Fn K mg "code" Do f fd ["n","text"])
  (HN:∃C,(∃f fd,M4 K mg "Node" "Node.__init__" Dn ["self","form","detail","parts"] C f fd)∧aO K C "form"∧aO K C "detail"∧aO K C "parts"∧aO K C "height")
  (HS:∃C,(∃f fd,M4 K mg "Scanner" "Scanner.__init__" (bM 0) ["self","signs"] C f fd)∧aO K C "signs"∧aO K C "at"∧aO K C "tokens"∧(∃f fd,Fm K C "peek" "Scanner.peek" (bM 1) f fd ["self","ahead"])∧(∃f fd,Fm K C "scan_token" "Scanner.scan_token" (bM 2) f fd ["self"])∧(∃f fd,Fm K C "digits_behind" "Scanner.digits_behind" (bM 3) f fd ["self","sign"])∧(∃f fd,Fm K C "take_digits" "Scanner.take_digits" (bM 4) f fd ["self","number"])∧(∃f fd,Fm K C "take_decimals" "Scanner.take_decimals" (bM 5) f fd ["self","whole"])∧(∃f fd,Fm K C "scan_number" "Scanner.scan_number" (bM 6) f fd ["self"])∧(∃f fd,Fm K C "take_name_signs" "Scanner.take_name_signs" (bM 7) f fd ["self"])∧(∃f fd,Fm K C "scan_name" "Scanner.scan_name" (bM 8) f fd ["self"])∧(∃f fd,Fm K C "scan_sign" "Scanner.scan_sign" (bM 9) f fd ["self"]))
  (HF:∃C,(∃f fd,M4 K mg "Frame" "Frame.__init__" (wR 0) ["self","form","detail","parts"] C f fd)∧aO K C "form"∧aO K C "detail"∧aO K C "parts"∧aO K C "place"∧aO K C "around"∧aO K C "bracket"∧(∃f fd,Fm K C "ends_with_part" "Frame.ends_with_part" (wR 1) f fd ["self"]))
  (HP:∃C,(∃f fd,M4 K mg "Parser" "Parser.__init__" (aY 0) ["self","tokens"] C f fd)∧aO K C "tokens"∧aO K C "at"∧aO K C "frames"∧aO K C "nesting"∧aO K C "ended"∧aO K C "kind"∧(∃f fd,Fm K C "take" "Parser.take" (aY 1) f fd ["self"])∧(∃f fd,Fm K C "step" "Parser.step" (aY 2) f fd ["self"])∧(∃f fd,Fm K C "push" "Parser.push" (aY 3) f fd ["self","form","detail","parts"])∧(∃f fd,Fm K C "begin" "Parser.begin" (aY 4) f fd ["self","token"])∧(∃f fd,Fm K C "begin_name" "Parser.begin_name" (aY 5) f fd ["self","name"])∧(∃f fd,Fm K C "begin_word" "Parser.begin_word" (aY 6) f fd ["self","word"])∧(∃f fd,Fm K C "begin_brackets" "Parser.begin_brackets" (aY 7) f fd ["self","form","detail"])∧(∃f fd,Fm K C "go_on" "Parser.go_on" (aY 8) f fd ["self","token"])∧(∃f fd,Fm K C "go_on_around" "Parser.go_on_around" (aY 9) f fd ["self","token"])∧(∃f fd,Fm K C "join_two" "Parser.join_two" (aY 10) f fd ["self","form","detail"])∧(∃f fd,Fm K C "end_parts" "Parser.end_parts" (aY 11) f fd ["self"])∧(∃f fd,Fm K C "end_frame" "Parser.end_frame" (aY 12) f fd ["self"])∧(∃f fd,Fm K C "end_with" "Parser.end_with" (aY 13) f fd ["self","form","detail","parts"])∧(∃f fd,Fm K C "next_of_if" "Parser.next_of_if" (aY 14) f fd ["self","count"])∧(∃f fd,Fm K C "next_in_brackets" "Parser.next_in_brackets" (aY 15) f fd ["self"])∧(∃f fd,Fm K C "keep_part" "Parser.keep_part" (aY 16) f fd ["self"])∧(∃f fd,Fm K C "close_brackets" "Parser.close_brackets" (aY 17) f fd ["self"]))
  (HX:∃Rc,(mg "Refusal"=some (.ref Rc)∧∃f fd,h_ K Rc "__init__" f∧fc K "__init__" "Refusal.__init__" vd f fd∧Binds K fd ["self","number"] [])∧(∃C f fd,Cz K mg "WrongParameterCount" "WrongParameterCount.__init__" (yH 26) Rc C f fd)∧(∃C f fd,Cz K mg "CodeTooLong" "CodeTooLong.__init__" (yH 27) Rc C f fd)∧(∃C f fd,Cz K mg "TextTooLong" "TextTooLong.__init__" wN Rc C f fd)∧(∃C f fd,Cz K mg "NoExpression" "NoExpression.__init__" wQ Rc C f fd)∧(∃C f fd,Cz K mg "TextTooHigh" "TextTooHigh.__init__" wO Rc C f fd)∧(∃C f fd,Cz K mg "WrongName" "WrongName.__init__" wM Rc C f fd))
  : ∃fd:FuncData,(∀(s:Shared)(us:List Value),us.length=(["n","text"]:List Str).length→BindsTo s fd ⟨us,[]⟩ ((["n","text"]:List Str).zip us))∧∀base:Heap,K.In base→base.Ns mainGlobals mg→aF P w K mg base (aW P w) 67 fa fd ["n","text"] (Al K):=by
 obtain⟨fO,fF,a3⟩:=et
 obtain⟨fB,fz,c2⟩:=ee
 obtain⟨fu,fo,dW⟩:=ed
 obtain⟨cS,c1,z⟩:=c0
 obtain⟨cs,ca,av⟩:=cn
 obtain⟨aE,aI,D⟩:=aC
 obtain⟨ae,ag,j⟩:=af
 obtain⟨b2,b4,ai⟩:=b3
 obtain⟨bi,bn,O⟩:=bp
 obtain⟨a9,bd,J⟩:=bb
 obtain⟨fS,fT,e4⟩:=eL
 obtain⟨eu,eB,dt⟩:=ez
 obtain⟨eK,eH,cy⟩:=cb
 obtain⟨c5,c4,a8⟩:=c7
 obtain⟨fD,fC,L⟩:=ej
 obtain⟨dS,ea,Z⟩:=d2
 obtain⟨de,c6,a7⟩:=df
 obtain⟨cp,cv,ar⟩:=cg
 obtain⟨d4,eb,cw⟩:=dV
 obtain⟨cL,cK,aT⟩:=cA
 obtain⟨bf,bq,Y⟩:=bo
 obtain⟨db,da,a6⟩:=c9
 obtain⟨dJ,dP,bE⟩:=dF
 obtain⟨gp,gs,eI⟩:=fw
 obtain⟨gl,fi,d1⟩:=fh
 obtain⟨C,⟨fN,dN,KN⟩,fk,eM,fb,eW⟩:=HN
 obtain⟨ZS,⟨iS,jS,KS⟩,eP,fG,eC,⟨gi,f8,a4⟩,⟨dB,dO,bP⟩,⟨cC,cE,aS⟩,⟨dn,dk,ah⟩,⟨cB,cN,a0⟩,⟨dr,dg,ba⟩,⟨b1,b0,ac⟩,⟨d3,dQ,cj⟩,⟨dU,d6,b9⟩⟩:=HS
 obtain⟨ZF,⟨iF,jF,KF⟩,e7,ew,eR,eT,ey,eh,⟨b5,cc,ay⟩⟩:=HF
 obtain⟨ZP,⟨iP,jP,KP⟩,er,fK,eA,ei,e0,fe,⟨gd,f7,eJ⟩,⟨ft,fx,eD⟩,⟨fy,fg,be⟩,⟨e5,e8,eg⟩,⟨dG,dD,bx⟩,⟨dy,dE,bX⟩,⟨ck,b6,ax⟩,⟨ff,e6,el⟩,⟨dc,c8,a5⟩,⟨em,eo,c3⟩,⟨d5,d7,cq⟩,⟨ec,d8,aa⟩,⟨ef,ek,aw⟩,⟨dC,dA,bv⟩,⟨bg,bt,U⟩,⟨fv,fq,cx⟩,⟨cf,cm,al⟩⟩:=HP
 obtain⟨Rc,⟨mR,fR,dR,eS,FR,bR⟩,⟨Cw,g6,hJ,Xw⟩,⟨Cl,gS,g9,Xl⟩,⟨Ct,hH,hN,Xt⟩,⟨Ce,hO,hD,Xe⟩,⟨Ch,hn,g7,Xh⟩,⟨Cg,hh,hf,Xg⟩⟩:=HX
 obtain⟨dm,ho,hb⟩:=hm
 have e:=hq.symm.trans d1.m
 cases e
 have no:∀(i:Nat){x:Str},absent[i]?=some x→mg x=none:=fun i _ e=>Uu X G ha i e
 have S:∀(i:Nat){x:Str}{c:TV},consts[i]?=some (x,c)→GC K mg x c:=fun i _ _ e=>UW X G hc i e
 have gg:∀x∈["TWO_SIGNS","ONE_WORDS","PICK_WORDS"],Qa K x=true:=j6.mp hg
 have TN:v_ K C:=⟨KN.cl,fk,eM,fb,eW⟩
 have TS:jD K ZS:=⟨KS.cl,eP,fG,eC⟩
 have TF:gf K ZF:=⟨KF.cl,e7,ew,eR,eT,ey,eh⟩
 have TP:iZ K ZP:=⟨KP.cl,er,fK,eA,ei,e0,fe⟩
 have TQ:CN K mg:=⟨S 0 rfl,S 1 rfl,S 2 rfl,S 3 rfl,S 4 rfl,S 5 rfl,S 6 rfl,S 7 rfl,S 8 rfl,S 9 rfl⟩
 have TY:CP K mg:=⟨S 10 rfl,S 11 rfl,S 12 rfl,S 13 rfl,S 14 rfl,S 15 rfl,no 2 rfl,no 3 rfl,no 4 rfl,no 1 rfl⟩
 have TR:SB.CR K mg:=⟨S 16 rfl,S 17 rfl,S 18 rfl⟩
 have TU:CS K mg:=⟨S 20 rfl,S 21 rfl,S 23 rfl,S 24 rfl,no 1 rfl⟩
 have TM:CM K w mg:=⟨hd,S 26 rfl,no 2 rfl⟩
 have TT:CT K mg:=⟨S 27 rfl,S 28 rfl,S 29 rfl,S 25 rfl,S 30 rfl,S 31 rfl⟩
 have TG:CG K mg:=⟨S 5 rfl,S 24 rfl,S 34 rfl,S 35 rfl,S 36 rfl,no 1 rfl⟩
 have TO:CO K mg:=⟨S 37 rfl,S 38 rfl⟩
 obtain⟨t2,x2,G2⟩:=LK (l:=dY.map tvs) X G (S 15 rfl) (gg _ (by simp))
 obtain⟨t3,x3,G3⟩:=LK (l:=vm.map TV.s) X G (S 13 rfl) (gg _ (by simp))
 obtain⟨t4,x4,G4⟩:=LK (l:=rm.map TV.s) X G (S 14 rfl) (gg _ (by simp))
 have fU:mg "max"=none:=no 0 rfl
 have hex:mg "Exception"=none:=no 6 rfl
 have bS:mg "len"=none:=no 1 rfl
 have hint:mg "int"=none:=no 7 rfl
 have fA:mg "str"=none:=no 2 rfl
 have f6:mg "zip"=none:=no 8 rfl
 have fW:mg "abs"=none:=no 9 rfl
 have fm:mg "range"=none:=no 4 rfl
 have f0:mg "tuple"=none:=no 5 rfl
 obtain⟨oc,od,kV,doc,pm,an,cdv,ct,osl,hE,_,_⟩:=d1.F.ex
 refine⟨fi,fun s us hu=>by rw[hE];exact .of_eq (Et kV doc pm an cdv ct us hu),fun base _ _=>?_⟩
 have Yw:XC P w K mg base "WrongParameterCount" Cw g6 hJ (-1):=⟨Xw.made,Xw.cls,Xw.m,Xw.b,RL Xw.F FR bR mR eS hex⟩
 have Yl:XC P w K mg base "CodeTooLong" Cl gS g9 (-2):=⟨Xl.made,Xl.cls,Xl.m,Xl.b,Ov Xl.F FR bR mR eS hex⟩
 have Yt:XC P w K mg base "TextTooLong" Ct hH hN (-5):=⟨Xt.made,Xt.cls,Xt.m,Xt.b,KR Xt.F FR bR mR eS hex⟩
 have Ye:XC P w K mg base "NoExpression" Ce hO hD (-6):=⟨Xe.made,Xe.cls,Xe.m,Xe.b,K6 Xe.F FR bR mR eS hex⟩
 have Yh:XC P w K mg base "TextTooHigh" Ch hn g7 (-7):=⟨Xh.made,Xh.cls,Xh.m,Xh.b,KY Xh.F FR bR mR eS hex⟩
 have Yg:XC P w K mg base "WrongName" Cg hh hf (-8):=⟨Xg.made,Xg.cls,Xg.m,Xg.b,KQ Xg.F FR bR mR eS hex⟩
 have fJ:aF P w K mg base (aW P w) 1 cS c1 ["name","head","tail","count"] (jQ):=Gr z bS hint fA
 have gu:aF P w K mg base (aW P w) 2 cs ca ["name"] (Jd):=RV av TM z fJ
 have g0:aF P w K mg base (aW P w) 4 aE aI ["name","n"] (Am Cg):=O6 D z fJ av gu Yg TR
 have hk:aF P w K mg base (aW P w) 4 ae ag ["name","count"] (uc Cg):=Gw j z fJ Yg TR
 have hB:aF P w K mg base (aW P w) 5 a9 bd ["node","n"] (Af C Cg):=Ow J TN TY TQ D g0 j hk
 have g5:aF P w K mg base (aW P w) 6 bi bn ["node","sizes","n"] (Jc C Cg):=RQ O TN TY TQ J hB
 have hL:aF P w K mg base (aW P w) 39 b2 b4 ["node","n"] (rW C Cg 32):=K7 ai TN TY f6 O g5 32
 have hF:aF P w K mg base (aW P w) 40 eu eB ["node","n"] (wI C Cg):=K8 dt ai hL e4
 have f5:aF P w K mg base (aW P w) 2 dn dk ["self","number"] (wC K ZS):=Oj ah.F TS a4 bS L
 have gy:aF P w K mg base (aW P w) 2 cC cE ["self","sign"] (Ak K ZS):=O4 aS.F TS a4 bS L
 have hG:aF P w K mg base (aW P w) 3 cB cN ["self","whole"] (Ac K ZS):=Ol a0.F TS ah f5 fm
 have ht:aF P w K mg base (aW P w) 2 c5 c4 ["numerator","denominator"] (tZ):=Gu a8 fW cy
 have hl:aF P w K mg base (aW P w) 4 dr dg ["self"] (wG K ZS Ce):=K5 (fL:=dS) (dL:=ea) ba.F TS TT Ye a4 bS Z ah f5 aS gy a0 hG a8 ht
 have gL:aF P w K mg base (aW P w) 2 de c6 ["sign"] (wB):=KJ a7 L Z (S 29 rfl)
 have gT:aF P w K mg base (aW P w) 2 cp cv ["sign"] (Di):=RT ar L TT (S 32 rfl) fA
 have gI:aF P w K mg base (aW P w) 3 b1 b0 ["self"] (IV K ZS):=RM ac.F TS a4 bS a7 gL ar gT
 have hj:aF P w K mg base (aW P w) 4 d3 dQ ["self"] (tY K ZS Ce):=Gs cj.F TS TT (S 33 rfl) Ye a4 bS Z ac gI
 have hC:aF P w K mg base (aW P w) 4 dU d6 ["self"] (wF K ZS Ce):=K4 b9.F TS Ye a4 bS f0 ho hb G2
 have hP:aF P w K mg base (aW P w) 5 dB dO ["self"] (wD K ZS Ce):=KZ bP.F TS TT a4 bS L Z ba hl cj hj b9 hC
 have g4:aF P w K mg base (aW P w) 6 d4 eb ["text"] (Ab K Ce):=Oi cw TS KS.mk_ (Oo KS.F TS) KS.b KS.m bS bP hP
 have he:aF P w K mg base (aW P w) 2 iF jF ["self","form","detail","parts"] (Ah ZF):=Oz KF.F TF TQ TG a3 c2 dW
 have gx:aF P w K mg base (aW P w) 1 b5 cc ["self"] (Ji C ZF):=R3 ay.F TF TQ TG
 have fE:aF P w K mg base (aW P w) 3 ef ek ["self","form","detail","parts"] (t8 C ZF ZP):=OJ aw.F TP TQ KN.mk_ (Ou KN.F TN fU) KN.b KN.m a3
 have e9:aF P w K mg base (aW P w) 4 fy fg ["self","form","detail","parts"] (jd C ZF ZP Ce):=Oq be.F TP TF TG Ye KF.mk_ he KF.b KF.m
 have fP:aF P w K mg base (aW P w) 4 ec d8 ["self"] (t_ C ZF ZP):=O2 aa.F TP TF TG aw fE
 have hy:aF P w K mg base (aW P w) 5 d5 d7 ["self"] (Aj C ZF ZP):=O1 cq.F TP TF aa fP ay gx
 have gE:aF P w K mg base (aW P w) 5 em eo ["self","form","detail"] (Ag C ZF ZP Ce):=Ox c3.F TP TF TQ Ye aa fP be e9 a3 c2
 have gN:aF P w K mg base (aW P w) 4 dC dA ["self","count"] (Je C ZF ZP Ce):=RW bv.F TP TF TQ TG Ye cx
 have hA:aF P w K mg base (aW P w) 4 bg bt ["self"] (Fz C ZF ZP Ce (PM.around (Vbdeaa.sg ","))):=RX U.F TP TF (S 12 rfl) (S 19 rfl) Ye cx
 have hp:aF P w K mg base (aW P w) 5 cf cm ["self"] (Fz C ZF ZP Ce (PM.around (Vbdeaa.sg ")"))):=Om al.F TP TF Ye aa fP
 have gX:aF P w K mg base (aW P w) 6 dc c8 ["self","token"] (Jh C ZF ZP Ce):=R0 a5.F TP Ye bv gN U hA al hp
 have hM:aF P w K mg base (aW P w) 7 ff e6 ["self","token"] (Rf C ZF ZP Ce):=Ur el.F TP TQ c3 gE cq hy a5 gX
 have hr:aF P w K mg base (aW P w) 5 ck b6 ["self","form","detail"] (Dj C ZF ZP Ce):=R5 ax.F TP TO Ye eJ be e9
 have gv:aF P w K mg base (aW P w) 5 dG dD ["self","name"] (Jl C ZF ZP Ce):=R6 bx.F TP TO (S 19 rfl) (S 11 rfl) be e9 aw fE
 have hK:aF P w K mg base (aW P w) 6 dy dE ["self","word"] (Jk C ZF ZP Ce):=R4 bX.F TP TF TQ TG (S 12 rfl) ⟨G3,G4⟩ Ye be e9 ax hr a3
 have hv:aF P w K mg base (aW P w) 7 e5 e8 ["self","token"] (Rg C ZF ZP Ce):=Us eg.F TP TQ TG TO (S 10 rfl) Ye be e9 aw fE bx gv bX hK
 have hs:aF P w K mg base (aW P w) 8 ft fx ["self"] (IW C ZF ZP Ce):=RN eD.F TP eJ eg hv el hM
 have hI:aF P w K mg base (aW P w) 9 cL cK ["text"] (Ai K C Ce):=OD aT TP KP.mk_ (Ot KP.F TP TG) KP.b KP.m bS cw g4 eD hs
 have f3:aF P w K mg base (aW P w) 4 bf bq ["n"] (Jb Cw):=RP Y Yw TU
 have f4:aF P w K mg base (aW P w) 4 db da ["numbers"] (Jf K Cl):=RZ a6 Yl TU
 have gz:aF P w K mg base (aW P w) 41 dJ dP ["n","signs"] (Rb K Ct Ce Ch Cg Cl):=Ut bE TN TU (S 22 rfl) Yt Yh aT hI dt hF a6 f4
 exact O5 d1 mR Y f3 bE gz eI (O3 eI TU) Xw.cls Xt.cls Xe.cls Xh.cls Xg.cls Xl.cls Xw.ex Xt.ex Xe.ex Xh.ex Xg.ex Xl.ex
end SB
end
section
namespace SB
open PySem PySem.Spec PyProof.Rows L2
open PySem.W (Codec OpenSpec)
variable {P:Program} {w:World} {K:PySem.W.Frag} {mg:Str→Option Value} {base:Heap}
theorem Q0{r:OpenSpec}{k:Nat}{q:Program}{j:List Str}{Y:(Str→Option Value)→Heap→Prop}{L:World→Heap→Prop}{d:DefRec}{K:Params→PySem.W.Frag}{ps:List Str}{sp:PySem.W.Frag→Sp}
  (D:r.wellSaid=true) (O:d.params.defaults=[]) (G:r.args.length=ps.length) (U:bH k callerA) (S:∀(w:World)(h:Heap),L w h→(K w.params).In h)
  (F:∀(w:World)(mg:Str→Option Value)(fa:Addr)(h:Heap),L w h→(K w.params).In h→h.Ns mainGlobals mg→mg d.name=some (.ref fa) →
   ∃fd:FuncData,(∀(s:Shared)(us:List Value),us.length=ps.length→BindsTo s fd ⟨us,[]⟩ (ps.zip us))∧∀base:Heap,(K w.params).In base→base.Ns mainGlobals mg→aF r.prog w (K w.params) mg base (XL.aW r.prog w) k fa fd ps (sp (K w.params)))
  (J:∀(K:PySem.W.Frag)(H:Hp)(xs:List V)(a:Codec.denoteAll r.args),jE K H xs (Codec.encAll r.args a)→sp K xs H (fun v H'=>Dw K H' v (r.ret.enc (Codec.app r.args r.f a))) fun _ _ _=>False) :
  PySem.W.WalkOS q j Y L r d [] (fun f vs=>PySem.call f vs) :=
 Fi (K:=K) (CX:=fun w=>XL.aW r.prog w) (sp:=fun w=>sp (K w.params)) D O G U S F (fun w H xs a _ _ _ Z=>J (K w.params) H xs a Z) fun w H s e s' z=>by
  obtain⟨_,_,_,_,_,_,_,_,_,_,q⟩:=z
  exact q
end SB
open PySem PySem.W PyProof.Rows
set_option maxRecDepth 100000 in
set_option maxHeartbeats 0 in
theorem PySem.Challenge.cw_stackback_s02_code_holds : PySem.Challenge.rw_stackback_s02_code.Holds := by
 w_on;k_headS;(case hw=>exact⟨[.int 0,.list []],by decide +kernel,by decide +kernel⟩)
 k_fillS
 refine SB.Q0 (r:=PySem.Challenge.rw_stackback_s02_code) (k:=67) (ps:=["n","text"]) (sp:=SB.Al) (by decide +kernel) rfl rfl ⟨rfl,by decide,by decide⟩ (fun w h Y=>PySem.W.kIn_of Y) ?jF ?jS
 case jF =>
  intro w mg fa h Y KX G hmg
  refine' SB.SQ KX G hmg ?jcs ?jab ?jgt ?jkd ?jkm ?jh0 ?jh1 ?jh2 ?jh3 ?jh4 ?jh5 ?jh6 ?jh7 ?jh8 ?jh9 ?jh10 ?jh11 ?jh12 ?jh13 ?jh14 ?jh15 ?jh16 ?jh17 ?jh18 ?jh19 ?jh20 ?jh21 ?jh22 ?jh23 ?jh24 ?jhN ?jhS ?jhF ?jhP ?jhX
  (case jcs=>kernel_rfl)
  (case jab=>kernel_rfl)
  (case jgt=>kernel_rfl)
  (case jkd =>
   refine' SB.kdx KX G ?jd_a ?jd_l ?jd_s ?jd_e
   (case jd_a=>k_is);(case jd_l=>k_is);(case jd_s=>rfl)
   exact⟨⟨_,_,rfl,rfl⟩,rfl,⟨_,_,rfl,rfl⟩,rfl,⟨_,_,rfl,rfl⟩,rfl,⟨_,_,rfl,rfl⟩,rfl,⟨_,_,rfl,rfl⟩,rfl,⟨_,_,rfl,rfl⟩,rfl,⟨_,_,rfl,rfl⟩,rfl,trivial⟩)
  (case jkm =>
   refine' SB.WM KX G ?jm_a ?jm_l ?jm_s ?jm_e
   (case jm_a=>k_is);(case jm_l=>k_is);(case jm_s=>rfl)
   exact⟨⟨_,_,rfl,rfl⟩,rfl,⟨_,_,rfl,rfl⟩,rfl,⟨_,_,rfl,rfl⟩,rfl,trivial⟩)
  (case jh0 =>
   refine' SB.rF SB.BW KX G ?jh0_a ?jh0_l ?jh0_c ?jh0_k
   (case jh0_a=>k_is);(case jh0_l=>k_is);(case jh0_c=>k_is);(case jh0_k=>k_is))
  (case jh1 =>
   refine' SB.rF SB.zH KX G ?jh1_a ?jh1_l ?jh1_c ?jh1_k
   (case jh1_a=>k_is);(case jh1_l=>k_is);(case jh1_c=>k_is);(case jh1_k=>k_is))
  (case jh2 =>
   refine' SB.rF SB.xX KX G ?jh2_a ?jh2_l ?jh2_c ?jh2_k
   (case jh2_a=>k_is);(case jh2_l=>k_is);(case jh2_c=>k_is);(case jh2_k=>k_is))
  (case jh3 =>
   refine' SB.rF SB.qt KX G ?jh3_a ?jh3_l ?jh3_c ?jh3_k
   (case jh3_a=>k_is);(case jh3_l=>k_is);(case jh3_c=>k_is);(case jh3_k=>k_is))
  (case jh4 =>
   refine' SB.rF SB.pB KX G ?jh4_a ?jh4_l ?jh4_c ?jh4_k
   (case jh4_a=>k_is);(case jh4_l=>k_is);(case jh4_c=>k_is);(case jh4_k=>k_is))
  (case jh5 =>
   refine' SB.rF SB.iu KX G ?jh5_a ?jh5_l ?jh5_c ?jh5_k
   (case jh5_a=>k_is);(case jh5_l=>k_is);(case jh5_c=>k_is);(case jh5_k=>k_is))
  (case jh6 =>
   refine' SB.rF SB.gG KX G ?jh6_a ?jh6_l ?jh6_c ?jh6_k
   (case jh6_a=>k_is);(case jh6_l=>k_is);(case jh6_c=>k_is);(case jh6_k=>k_is))
  (case jh7 =>
   refine' SB.rF SB.nZ KX G ?jh7_a ?jh7_l ?jh7_c ?jh7_k
   (case jh7_a=>k_is);(case jh7_l=>k_is);(case jh7_c=>k_is);(case jh7_k=>k_is))
  (case jh8 =>
   refine' SB.rF SB.mO KX G ?jh8_a ?jh8_l ?jh8_c ?jh8_k
   (case jh8_a=>k_is);(case jh8_l=>k_is);(case jh8_c=>k_is);(case jh8_k=>k_is))
  (case jh9 =>
   refine' SB.rF SB.lg KX G ?jh9_a ?jh9_l ?jh9_c ?jh9_k
   (case jh9_a=>k_is);(case jh9_l=>k_is);(case jh9_c=>k_is);(case jh9_k=>k_is))
  (case jh10 =>
   refine' SB.rF SB.Hj KX G ?jh10_a ?jh10_l ?jh10_c ?jh10_k
   (case jh10_a=>k_is);(case jh10_l=>k_is);(case jh10_c=>k_is);(case jh10_k=>k_is))
  (case jh11 =>
   refine' SB.rF SB.BX KX G ?jh11_a ?jh11_l ?jh11_c ?jh11_k
   (case jh11_a=>k_is);(case jh11_l=>k_is);(case jh11_c=>k_is);(case jh11_k=>k_is))
  (case jh12 =>
   refine' SB.rF SB.pD KX G ?jh12_a ?jh12_l ?jh12_c ?jh12_k
   (case jh12_a=>k_is);(case jh12_l=>k_is);(case jh12_c=>k_is);(case jh12_k=>k_is))
  (case jh13 =>
   refine' SB.rF SB.rG KX G ?jh13_a ?jh13_l ?jh13_c ?jh13_k
   (case jh13_a=>k_is);(case jh13_l=>k_is);(case jh13_c=>k_is);(case jh13_k=>k_is))
  (case jh14 =>
   refine' SB.rF SB.zJ KX G ?jh14_a ?jh14_l ?jh14_c ?jh14_k
   (case jh14_a=>k_is);(case jh14_l=>k_is);(case jh14_c=>k_is);(case jh14_k=>k_is))
  (case jh15 =>
   refine' SB.rF SB.xW KX G ?jh15_a ?jh15_l ?jh15_c ?jh15_k
   (case jh15_a=>k_is);(case jh15_l=>k_is);(case jh15_c=>k_is);(case jh15_k=>k_is))
  (case jh16 =>
   refine' SB.rF SB.rH KX G ?jh16_a ?jh16_l ?jh16_c ?jh16_k
   (case jh16_a=>k_is);(case jh16_l=>k_is);(case jh16_c=>k_is);(case jh16_k=>k_is))
  (case jh17 =>
   refine' SB.rF SB.pC KX G ?jh17_a ?jh17_l ?jh17_c ?jh17_k
   (case jh17_a=>k_is);(case jh17_l=>k_is);(case jh17_c=>k_is);(case jh17_k=>k_is))
  (case jh18 =>
   refine' SB.rF SB.xV KX G ?jh18_a ?jh18_l ?jh18_c ?jh18_k
   (case jh18_a=>k_is);(case jh18_l=>k_is);(case jh18_c=>k_is);(case jh18_k=>k_is))
  (case jh19 =>
   refine' SB.rF SB.qu KX G ?jh19_a ?jh19_l ?jh19_c ?jh19_k
   (case jh19_a=>k_is);(case jh19_l=>k_is);(case jh19_c=>k_is);(case jh19_k=>k_is))
  (case jh20 =>
   refine' SB.rF SB.mQ KX G ?jh20_a ?jh20_l ?jh20_c ?jh20_k
   (case jh20_a=>k_is);(case jh20_l=>k_is);(case jh20_c=>k_is);(case jh20_k=>k_is))
  (case jh21 =>
   refine' SB.rF SB.rJ KX G ?jh21_a ?jh21_l ?jh21_c ?jh21_k
   (case jh21_a=>k_is);(case jh21_l=>k_is);(case jh21_c=>k_is);(case jh21_k=>k_is))
  (case jh22 =>
   refine' SB.rF SB.vh KX G ?jh22_a ?jh22_l ?jh22_c ?jh22_k
   (case jh22_a=>k_is);(case jh22_l=>k_is);(case jh22_c=>k_is);(case jh22_k=>k_is))
  (case jh23 =>
   refine' SB.rF SB.Qo KX G ?jh23_a ?jh23_l ?jh23_c ?jh23_k
   (case jh23_a=>k_is);(case jh23_l=>k_is);(case jh23_c=>k_is);(case jh23_k=>k_is))
  (case jh24 =>
   refine' SB.rF SB.Et KX G ?jh24_a ?jh24_l ?jh24_c ?jh24_k
   (case jh24_a=>k_is);(case jh24_l=>k_is);(case jh24_c=>k_is);(case jh24_k=>k_is))
  (case jhN =>
   refine'⟨_,SB.Vk SB.Qp KX G ?jhN_aC ?jhN_pg ?jhN_hd ?jhN_po ?jhN_sa ?jhN_mk ?jhN_kc ?jhN_a ?jhN_i ?jhN_l ?jhN_c ?jhN_k,?jhN_n0,?jhN_n1,?jhN_n2,?jhN_n3⟩
   (case jhN_aC=>k_is);(case jhN_pg=>k_is);(case jhN_hd=>k_is);(case jhN_po=>k_is);(case jhN_sa=>k_is);(case jhN_mk=>k_is);(case jhN_kc=>k_is);(case jhN_a=>k_is);(case jhN_i=>k_is);(case jhN_l=>k_is);(case jhN_c=>k_is);(case jhN_k=>k_is)
   (case jhN_n0=>unfold L2.aO;k_is);(case jhN_n1=>unfold L2.aO;k_is);(case jhN_n2=>unfold L2.aO;k_is);(case jhN_n3=>unfold L2.aO;k_is))
  (case jhS =>
   refine'⟨_,SB.Vk SB.Ca KX G ?jhS_aC ?jhS_pg ?jhS_hd ?jhS_po ?jhS_sa ?jhS_mk ?jhS_kc ?jhS_a ?jhS_i ?jhS_l ?jhS_c ?jhS_k,?jhS_n0,?jhS_n1,?jhS_n2,(SB.qj SB.rK ?ja_peek ?ji_peek ?jl_peek ?jc_peek ?jk_peek),(SB.qj SB.jJ ?ja_scan_token ?ji_scan_token ?jl_scan_token ?jc_scan_token ?jk_scan_token),(SB.qj SB.iy ?ja_digits_behind ?ji_digits_behind ?jl_digits_behind ?jc_digits_behind ?jk_digits_behind),(SB.qj SB.jr ?ja_take_digits ?ji_take_digits ?jl_take_digits ?jc_take_digits ?jk_take_digits),(SB.qj SB.iw ?ja_take_decimals ?ji_take_decimals ?jl_take_decimals ?jc_take_decimals ?jk_take_decimals),(SB.qj SB.jt ?ja_scan_number ?ji_scan_number ?jl_scan_number ?jc_scan_number ?jk_scan_number),(SB.qj SB.gH ?ja_take_name_signs ?ji_take_name_signs ?jl_take_name_signs ?jc_take_name_signs ?jk_take_name_signs),(SB.qj SB.lu ?ja_scan_name ?ji_scan_name ?jl_scan_name ?jc_scan_name ?jk_scan_name),(SB.qj SB.lq ?ja_scan_sign ?ji_scan_sign ?jl_scan_sign ?jc_scan_sign ?jk_scan_sign)⟩
   (case jhS_aC=>k_is);(case jhS_pg=>k_is);(case jhS_hd=>k_is);(case jhS_po=>k_is);(case jhS_sa=>k_is);(case jhS_mk=>k_is);(case jhS_kc=>k_is);(case jhS_a=>k_is);(case jhS_i=>k_is);(case jhS_l=>k_is);(case jhS_c=>k_is);(case jhS_k=>k_is)
   (case jhS_n0=>unfold L2.aO;k_is);(case jhS_n1=>unfold L2.aO;k_is);(case jhS_n2=>unfold L2.aO;k_is)
   (case ja_peek=>k_is);(case ji_peek=>k_is);(case jl_peek=>k_is);(case jc_peek=>k_is);(case jk_peek=>k_is)
   (case ja_scan_token=>k_is);(case ji_scan_token=>k_is);(case jl_scan_token=>k_is);(case jc_scan_token=>k_is);(case jk_scan_token=>k_is)
   (case ja_digits_behind=>k_is);(case ji_digits_behind=>k_is);(case jl_digits_behind=>k_is);(case jc_digits_behind=>k_is);(case jk_digits_behind=>k_is)
   (case ja_take_digits=>k_is);(case ji_take_digits=>k_is);(case jl_take_digits=>k_is);(case jc_take_digits=>k_is);(case jk_take_digits=>k_is)
   (case ja_take_decimals=>k_is);(case ji_take_decimals=>k_is);(case jl_take_decimals=>k_is);(case jc_take_decimals=>k_is);(case jk_take_decimals=>k_is)
   (case ja_scan_number=>k_is);(case ji_scan_number=>k_is);(case jl_scan_number=>k_is);(case jc_scan_number=>k_is);(case jk_scan_number=>k_is)
   (case ja_take_name_signs=>k_is);(case ji_take_name_signs=>k_is);(case jl_take_name_signs=>k_is);(case jc_take_name_signs=>k_is);(case jk_take_name_signs=>k_is)
   (case ja_scan_name=>k_is);(case ji_scan_name=>k_is);(case jl_scan_name=>k_is);(case jc_scan_name=>k_is);(case jk_scan_name=>k_is)
   (case ja_scan_sign=>k_is);(case ji_scan_sign=>k_is);(case jl_scan_sign=>k_is);(case jc_scan_sign=>k_is);(case jk_scan_sign=>k_is))
  (case jhF =>
   refine'⟨_,SB.Vk SB.Mt KX G ?jhF_aC ?jhF_pg ?jhF_hd ?jhF_po ?jhF_sa ?jhF_mk ?jhF_kc ?jhF_a ?jhF_i ?jhF_l ?jhF_c ?jhF_k,?jhF_n0,?jhF_n1,?jhF_n2,?jhF_n3,?jhF_n4,?jhF_n5,(SB.qj SB.iW ?ja_ends_with_part ?ji_ends_with_part ?jl_ends_with_part ?jc_ends_with_part ?jk_ends_with_part)⟩
   (case jhF_aC=>k_is);(case jhF_pg=>k_is);(case jhF_hd=>k_is);(case jhF_po=>k_is);(case jhF_sa=>k_is);(case jhF_mk=>k_is);(case jhF_kc=>k_is);(case jhF_a=>k_is);(case jhF_i=>k_is);(case jhF_l=>k_is);(case jhF_c=>k_is);(case jhF_k=>k_is)
   (case jhF_n0=>unfold L2.aO;k_is);(case jhF_n1=>unfold L2.aO;k_is);(case jhF_n2=>unfold L2.aO;k_is);(case jhF_n3=>unfold L2.aO;k_is);(case jhF_n4=>unfold L2.aO;k_is);(case jhF_n5=>unfold L2.aO;k_is)
   (case ja_ends_with_part=>k_is);(case ji_ends_with_part=>k_is);(case jl_ends_with_part=>k_is);(case jc_ends_with_part=>k_is);(case jk_ends_with_part=>k_is))
  (case jhP =>
   refine'⟨_,SB.Vk SB.Hl KX G ?jhP_aC ?jhP_pg ?jhP_hd ?jhP_po ?jhP_sa ?jhP_mk ?jhP_kc ?jhP_a ?jhP_i ?jhP_l ?jhP_c ?jhP_k,?jhP_n0,?jhP_n1,?jhP_n2,?jhP_n3,?jhP_n4,?jhP_n5,(SB.qj SB.uR ?ja_take ?ji_take ?jl_take ?jc_take ?jk_take),(SB.qj SB.uT ?ja_step ?ji_step ?jl_step ?jc_step ?jk_step),(SB.qj SB.uU ?ja_push ?ji_push ?jl_push ?jc_push ?jk_push),(SB.qj SB.rN ?ja_begin ?ji_begin ?jl_begin ?jc_begin ?jk_begin),(SB.qj SB.lB ?ja_begin_name ?ji_begin_name ?jl_begin_name ?jc_begin_name ?jk_begin_name),(SB.qj SB.lA ?ja_begin_word ?ji_begin_word ?jl_begin_word ?jc_begin_word ?jk_begin_word),(SB.qj SB.iB ?ja_begin_brackets ?ji_begin_brackets ?jl_begin_brackets ?jc_begin_brackets ?jk_begin_brackets),(SB.qj SB.rM ?ja_go_on ?ji_go_on ?jl_go_on ?jc_go_on ?jk_go_on),(SB.qj SB.ju ?ja_go_on_around ?ji_go_on_around ?jl_go_on_around ?jc_go_on_around ?jk_go_on_around),(SB.qj SB.n6 ?ja_join_two ?ji_join_two ?jl_join_two ?jc_join_two ?jk_join_two),(SB.qj SB.mV ?ja_end_parts ?ji_end_parts ?jl_end_parts ?jc_end_parts ?jk_end_parts),(SB.qj SB.mW ?ja_end_frame ?ji_end_frame ?jl_end_frame ?jc_end_frame ?jk_end_frame),(SB.qj SB.n8 ?ja_end_with ?ji_end_with ?jl_end_with ?jc_end_with ?jk_end_with),(SB.qj SB.lz ?ja_next_of_if ?ji_next_of_if ?jl_next_of_if ?jc_next_of_if ?jk_next_of_if),(SB.qj SB.gJ ?ja_next_in_brackets ?ji_next_in_brackets ?jl_next_in_brackets ?jc_next_in_brackets ?jk_next_in_brackets),(SB.qj SB.mU ?ja_keep_part ?ji_keep_part ?jl_keep_part ?jc_keep_part ?jk_keep_part),(SB.qj SB.iz ?ja_close_brackets ?ji_close_brackets ?jl_close_brackets ?jc_close_brackets ?jk_close_brackets)⟩
   (case jhP_aC=>k_is);(case jhP_pg=>k_is);(case jhP_hd=>k_is);(case jhP_po=>k_is);(case jhP_sa=>k_is);(case jhP_mk=>k_is);(case jhP_kc=>k_is);(case jhP_a=>k_is);(case jhP_i=>k_is);(case jhP_l=>k_is);(case jhP_c=>k_is);(case jhP_k=>k_is)
   (case jhP_n0=>unfold L2.aO;k_is);(case jhP_n1=>unfold L2.aO;k_is);(case jhP_n2=>unfold L2.aO;k_is);(case jhP_n3=>unfold L2.aO;k_is);(case jhP_n4=>unfold L2.aO;k_is);(case jhP_n5=>unfold L2.aO;k_is)
   (case ja_take=>k_is);(case ji_take=>k_is);(case jl_take=>k_is);(case jc_take=>k_is);(case jk_take=>k_is)
   (case ja_step=>k_is);(case ji_step=>k_is);(case jl_step=>k_is);(case jc_step=>k_is);(case jk_step=>k_is)
   (case ja_push=>k_is);(case ji_push=>k_is);(case jl_push=>k_is);(case jc_push=>k_is);(case jk_push=>k_is)
   (case ja_begin=>k_is);(case ji_begin=>k_is);(case jl_begin=>k_is);(case jc_begin=>k_is);(case jk_begin=>k_is)
   (case ja_begin_name=>k_is);(case ji_begin_name=>k_is);(case jl_begin_name=>k_is);(case jc_begin_name=>k_is);(case jk_begin_name=>k_is)
   (case ja_begin_word=>k_is);(case ji_begin_word=>k_is);(case jl_begin_word=>k_is);(case jc_begin_word=>k_is);(case jk_begin_word=>k_is)
   (case ja_begin_brackets=>k_is);(case ji_begin_brackets=>k_is);(case jl_begin_brackets=>k_is);(case jc_begin_brackets=>k_is);(case jk_begin_brackets=>k_is)
   (case ja_go_on=>k_is);(case ji_go_on=>k_is);(case jl_go_on=>k_is);(case jc_go_on=>k_is);(case jk_go_on=>k_is)
   (case ja_go_on_around=>k_is);(case ji_go_on_around=>k_is);(case jl_go_on_around=>k_is);(case jc_go_on_around=>k_is);(case jk_go_on_around=>k_is)
   (case ja_join_two=>k_is);(case ji_join_two=>k_is);(case jl_join_two=>k_is);(case jc_join_two=>k_is);(case jk_join_two=>k_is)
   (case ja_end_parts=>k_is);(case ji_end_parts=>k_is);(case jl_end_parts=>k_is);(case jc_end_parts=>k_is);(case jk_end_parts=>k_is)
   (case ja_end_frame=>k_is);(case ji_end_frame=>k_is);(case jl_end_frame=>k_is);(case jc_end_frame=>k_is);(case jk_end_frame=>k_is)
   (case ja_end_with=>k_is);(case ji_end_with=>k_is);(case jl_end_with=>k_is);(case jc_end_with=>k_is);(case jk_end_with=>k_is)
   (case ja_next_of_if=>k_is);(case ji_next_of_if=>k_is);(case jl_next_of_if=>k_is);(case jc_next_of_if=>k_is);(case jk_next_of_if=>k_is)
   (case ja_next_in_brackets=>k_is);(case ji_next_in_brackets=>k_is);(case jl_next_in_brackets=>k_is);(case jc_next_in_brackets=>k_is);(case jk_next_in_brackets=>k_is)
   (case ja_keep_part=>k_is);(case ji_keep_part=>k_is);(case jl_keep_part=>k_is);(case jc_keep_part=>k_is);(case jk_keep_part=>k_is)
   (case ja_close_brackets=>k_is);(case ji_close_brackets=>k_is);(case jl_close_brackets=>k_is);(case jc_close_brackets=>k_is);(case jk_close_brackets=>k_is))
  (case jhX =>
   refine'⟨_,⟨PySem.W.mg_of KX G ?jX_aR,_,_,⟨?jX_ga,?jX_rd,?jX_at,?jX_kp⟩,L2.qi ?jX_l ?jX_c ?jX_k,L2.fc.binds (L2.qi ?jX_l ?jX_c ?jX_k) SB.Ci⟩,(SB.Ti SB.jw KX G ?jaC_r0 ?jcls_r0 ?jkc_r0 ?ja_r0 ?ji_r0 ?jl_r0 ?jc_r0 ?jk_r0 ?jov_r0 ?jsa_r0 ?jtk_r0 ?jhd_r0 ?jga_r0 ?jgh_r0 ?jnn_r0 ?jex_r0),(SB.Ti SB.uX KX G ?jaC_r1 ?jcls_r1 ?jkc_r1 ?ja_r1 ?ji_r1 ?jl_r1 ?jc_r1 ?jk_r1 ?jov_r1 ?jsa_r1 ?jtk_r1 ?jhd_r1 ?jga_r1 ?jgh_r1 ?jnn_r1 ?jex_r1),(SB.Ti SB.uV KX G ?jaC_r2 ?jcls_r2 ?jkc_r2 ?ja_r2 ?ji_r2 ?jl_r2 ?jc_r2 ?jk_r2 ?jov_r2 ?jsa_r2 ?jtk_r2 ?jhd_r2 ?jga_r2 ?jgh_r2 ?jnn_r2 ?jex_r2),(SB.Ti SB.rO KX G ?jaC_r3 ?jcls_r3 ?jkc_r3 ?ja_r3 ?ji_r3 ?jl_r3 ?jc_r3 ?jk_r3 ?jov_r3 ?jsa_r3 ?jtk_r3 ?jhd_r3 ?jga_r3 ?jgh_r3 ?jnn_r3 ?jex_r3),(SB.Ti SB.uW KX G ?jaC_r4 ?jcls_r4 ?jkc_r4 ?ja_r4 ?ji_r4 ?jl_r4 ?jc_r4 ?jk_r4 ?jov_r4 ?jsa_r4 ?jtk_r4 ?jhd_r4 ?jga_r4 ?jgh_r4 ?jnn_r4 ?jex_r4),(SB.Ti SB.xY KX G ?jaC_r5 ?jcls_r5 ?jkc_r5 ?ja_r5 ?ji_r5 ?jl_r5 ?jc_r5 ?jk_r5 ?jov_r5 ?jsa_r5 ?jtk_r5 ?jhd_r5 ?jga_r5 ?jgh_r5 ?jnn_r5 ?jex_r5)⟩
   (case jX_aR=>k_is);(case jX_ga=>k_is);(case jX_rd=>k_is);(case jX_at=>k_is);(case jX_kp=>k_is);(case jX_l=>k_is);(case jX_c=>k_is);(case jX_k=>k_is)
   (case jaC_r0=>k_is)
   (case jcls_r0 =>
    refine' SB.Tf ?jlk_r0 ?je1_r0 ?je2_r0 ?je3_r0 ?je4_r0
    (case jlk_r0=>k_is)
    all_goals kernel_rfl)
   (case jkc_r0=>k_is);(case ja_r0=>k_is);(case ji_r0=>k_is);(case jl_r0=>k_is);(case jc_r0=>k_is);(case jk_r0=>k_is)
   (case jov_r0=>kernel_rfl);(case jsa_r0=>k_is);(case jtk_r0=>k_is);(case jhd_r0=>k_is);(case jga_r0=>k_is);(case jgh_r0=>k_is);(case jnn_r0=>k_is);(case jex_r0=>kernel_rfl)
   (case jaC_r1=>k_is)
   (case jcls_r1 =>
    refine' SB.Tf ?jlk_r1 ?je1_r1 ?je2_r1 ?je3_r1 ?je4_r1
    (case jlk_r1=>k_is)
    all_goals kernel_rfl)
   (case jkc_r1=>k_is);(case ja_r1=>k_is);(case ji_r1=>k_is);(case jl_r1=>k_is);(case jc_r1=>k_is);(case jk_r1=>k_is)
   (case jov_r1=>kernel_rfl);(case jsa_r1=>k_is);(case jtk_r1=>k_is);(case jhd_r1=>k_is);(case jga_r1=>k_is);(case jgh_r1=>k_is);(case jnn_r1=>k_is);(case jex_r1=>kernel_rfl)
   (case jaC_r2=>k_is)
   (case jcls_r2 =>
    refine' SB.Tf ?jlk_r2 ?je1_r2 ?je2_r2 ?je3_r2 ?je4_r2
    (case jlk_r2=>k_is)
    all_goals kernel_rfl)
   (case jkc_r2=>k_is);(case ja_r2=>k_is);(case ji_r2=>k_is);(case jl_r2=>k_is);(case jc_r2=>k_is);(case jk_r2=>k_is)
   (case jov_r2=>kernel_rfl);(case jsa_r2=>k_is);(case jtk_r2=>k_is);(case jhd_r2=>k_is);(case jga_r2=>k_is);(case jgh_r2=>k_is);(case jnn_r2=>k_is);(case jex_r2=>kernel_rfl)
   (case jaC_r3=>k_is)
   (case jcls_r3 =>
    refine' SB.Tf ?jlk_r3 ?je1_r3 ?je2_r3 ?je3_r3 ?je4_r3
    (case jlk_r3=>k_is)
    all_goals kernel_rfl)
   (case jkc_r3=>k_is);(case ja_r3=>k_is);(case ji_r3=>k_is);(case jl_r3=>k_is);(case jc_r3=>k_is);(case jk_r3=>k_is)
   (case jov_r3=>kernel_rfl);(case jsa_r3=>k_is);(case jtk_r3=>k_is);(case jhd_r3=>k_is);(case jga_r3=>k_is);(case jgh_r3=>k_is);(case jnn_r3=>k_is);(case jex_r3=>kernel_rfl)
   (case jaC_r4=>k_is)
   (case jcls_r4 =>
    refine' SB.Tf ?jlk_r4 ?je1_r4 ?je2_r4 ?je3_r4 ?je4_r4
    (case jlk_r4=>k_is)
    all_goals kernel_rfl)
   (case jkc_r4=>k_is);(case ja_r4=>k_is);(case ji_r4=>k_is);(case jl_r4=>k_is);(case jc_r4=>k_is);(case jk_r4=>k_is)
   (case jov_r4=>kernel_rfl);(case jsa_r4=>k_is);(case jtk_r4=>k_is);(case jhd_r4=>k_is);(case jga_r4=>k_is);(case jgh_r4=>k_is);(case jnn_r4=>k_is);(case jex_r4=>kernel_rfl)
   (case jaC_r5=>k_is)
   (case jcls_r5 =>
    refine' SB.Tf ?jlk_r5 ?je1_r5 ?je2_r5 ?je3_r5 ?je4_r5
    (case jlk_r5=>k_is)
    all_goals kernel_rfl)
   (case jkc_r5=>k_is);(case ja_r5=>k_is);(case ji_r5=>k_is);(case jl_r5=>k_is);(case jc_r5=>k_is);(case jk_r5=>k_is)
   (case jov_r5=>kernel_rfl);(case jsa_r5=>k_is);(case jtk_r5=>k_is);(case jhd_r5=>k_is);(case jga_r5=>k_is);(case jgh_r5=>k_is);(case jnn_r5=>k_is);(case jex_r5=>kernel_rfl))
 case jS =>
  intro K H xs a hx
  cases hx with
  | cons h1 h2 =>
   cases h2 with
   | cons h2 h3 =>
    cases h3
    cases h1
    cases h2 with
    | lst hs ha =>
     have e:=L2.Eb a.2.1 _ ha
     subst e
     exact⟨_,_,a.2.1,rfl,hs,fun l H' _ _ hl=>.lst (L2.bZ.of hl) (L2.Ej _)⟩
end
